"""Each function of the interface with arguments that it takes, and the error of each parameter."""

from clashsize import changes, clashes, errors, families, kinds, knots, leasts, moves, parties, parts, ranges, sights
from clashsize import texts, tights, ways, wholes, worlds

from samples import BOXES2, GUESTS, LEAN, LINE, SIGN, SOME, THREE, TILTED, TWELVE

POINT = ((1, 2), (-1, 3))
WORLD = [(5, 1), None, (1, 2)]
TIGHT = [(-1, 1), (0, 1), (0, 1)]
RULES = [(0, (5, 1)), (0, (3, 1)), (2, (1, 2))]
KNOT = [(0, 1), (1, 1), (2, 1)]
HALF = [(-1, 0), (0, 1), (1, 0)]
FORCING = ([(0, (-1, 1)), (1, (0, 1)), (2, (0, 1))], [((0, 1), (0, 1)), ((0, 1), (1, 1)), ((1, 1), (0, 1))])
FIVE = BOXES2 + [(1, 1)]
BOX = [(0, 1), (0, 1), (3, 1), (2, 1), None]
CLASHING = [(0, (-3, 1)), (1, (1, 1)), (2, (1, 1)), (2, (9, 1)), (1, (0, 1))]
SPEEDS = [(0, 1), (1, 1), (-1, 2)]
CONCLUDING = ([(0, (0, 1)), (1, (0, 1))], [((-1, 1), (0, 1)), ((-1, 1), (1, 1))])
LATE = [(-1, 0), (0, -1), (1, -1)]
PAIR = ((0, (-1, 1)), ((1, 1), (0, 1)), ((0, 1), (1, 1)))
LOOSE = [(2, 1), (1, 1), (0, 1)]
SIGHT = [(0, 1), (1, 1)]
BARRING = ([(-1, 1), (0, 1), (1, 1)], ((0, 1),))

# Each function with arguments in the order of its signature.
CALLS = [
    (kinds.is_kind, {"value": (1, 0)}),
    (kinds.is_book, {"value": THREE}),
    (kinds.is_fraction, {"value": (1, 2)}),
    (kinds.is_rules, {"book": THREE, "value": RULES}),
    (kinds.is_world, {"book": THREE, "value": WORLD}),
    (kinds.is_point, {"book": THREE, "value": POINT}),
    (kinds.product, {"book": THREE, "numbers": (2, 5), "point": POINT}),
    (kinds.obeys, {"book": THREE, "rules": RULES, "point": POINT}),
    (kinds.is_in, {"book": THREE, "world": WORLD, "point": POINT}),
    (kinds.rank, {"book": THREE}),
    (kinds.world_of, {"book": THREE, "rules": RULES}),
    (kinds.opposites, {"book": THREE}),
    (kinds.mixed, {"book": THREE, "matrix": ((1, 1), (0, 1))}),
    (kinds.beside, {"book": THREE, "other_book": LINE}),
    (knots.knots, {"book": THREE}),
    (knots.knot_numbers, {"book": THREE}),
    (knots.clash_size, {"book": THREE}),
    (knots.is_knot, {"book": THREE, "value": KNOT}),
    (knots.greatest_knot, {"book": THREE}),
    (knots.knots_with, {"book": THREE, "number": 1}),
    (parts.free_kinds, {"book": HALF}),
    (parts.falling, {"book": TWELVE}),
    (parts.sliding, {"book": HALF}),
    (parts.is_falling, {"book": TWELVE, "value": (-12, 1)}),
    (parts.is_sliding, {"book": HALF, "value": (0, -1)}),
    (parts.components, {"book": FIVE}),
    (parts.pairs_enough, {"book": THREE}),
    (parts.is_two_sided, {"book": BOXES2}),
    (worlds.knot_sum, {"book": THREE, "knot": KNOT, "world": TIGHT}),
    (worlds.broken, {"book": THREE, "world": TIGHT}),
    (worlds.has_points, {"book": THREE, "world": WORLD}),
    (worlds.breaking, {"book": THREE, "knot": KNOT}),
    (worlds.breaks_alone, {"book": THREE, "knot": KNOT, "value": TIGHT}),
    (worlds.forcing, {"book": THREE}),
    (worlds.is_forcing, {"book": THREE, "value": FORCING}),
    (families.boxes, {"number": 3}),
    (families.differences, {"number": 3}),
    (families.arrows, {"number": 3, "pairs": [(0, 1), (1, 2), (2, 0)]}),
    (families.ring_number, {"number": 4, "size": 3}),
    (families.ring_total, {"number": 4}),
    (families.box_size, {"kind": (1, 0, -2)}),
    (families.fan_numbers, {"fan": BOXES2}),
    (changes.size_with, {"book": BOXES2, "kind": (1, 1)}),
    (changes.adds_knots, {"book": BOXES2, "kind": (1, 1)}),
    (changes.blocking, {"book": TWELVE, "kind": (2, 1)}),
    (changes.is_blocking, {"book": TWELVE, "kind": (2, 1), "value": (-12, 1)}),
    (changes.raising, {"book": BOXES2, "reach": 1}),
    (changes.needed_kinds, {"book": FIVE}),
    (changes.fewest_out, {"book": FIVE, "size": 2}),
    (clashes.meet, {"book": THREE, "rules": RULES}),
    (clashes.point_of, {"book": THREE, "rules": RULES}),
    (clashes.clash_number, {"book": THREE, "rules": CLASHING}),
    (clashes.clashes, {"book": THREE, "rules": CLASHING}),
    (clashes.clash_of, {"book": THREE, "rules": CLASHING}),
    (clashes.is_clash, {"book": THREE, "rules": CLASHING, "value": [(0, 1), (1, 1), (2, 1)]}),
    (moves.loosening, {"book": THREE, "world": TIGHT, "firmness": [1, 2, 3]}),
    (moves.holding, {"book": THREE, "world": TIGHT, "firmness": [1, 2, 3]}),
    (moves.moved, {"book": THREE, "world": WORLD, "speeds": SPEEDS, "time": (2, 3)}),
    (moves.meeting_times, {"book": THREE, "world": TIGHT, "speeds": SPEEDS}),
    (ways.ways, {"book": FIVE, "numbers": (1, 1)}),
    (ways.is_way, {"book": FIVE, "numbers": (1, 1), "value": [(4, (1, 1))]}),
    (ways.conclusion_size, {"book": FIVE, "numbers": (1, 1)}),
    (ways.greatest, {"book": FIVE, "world": BOX, "numbers": (2, 1)}),
    (ways.highest, {"book": FIVE, "world": BOX, "numbers": (2, 1)}),
    (ways.follows, {"book": FIVE, "world": BOX, "numbers": (2, 1), "bound": (7, 1)}),
    (ways.rising, {"book": FIVE, "world": [(0, 1), None, None, None, None], "numbers": (2, 1)}),
    (ways.is_rising, {"book": THREE, "world": [None] * 3, "numbers": (2, 1), "value": (1, 1)}),
    (ways.concluding, {"book": FIVE, "numbers": (2, 1)}),
    (ways.is_concluding, {"book": THREE, "numbers": (-1, 0), "value": CONCLUDING}),
    (tights.tight, {"book": FIVE, "world": BOX}),
    (tights.same_points, {"book": FIVE, "world": BOX, "other": BOX[:4] + [(5, 1)]}),
    (tights.parting, {"book": FIVE, "world": BOX, "other": BOX[:4] + [(4, 1)]}),
    (tights.covering, {"book": FIVE, "world": BOX, "other": BOX[:4] + [(4, 1)]}),
    (tights.idle, {"book": FIVE, "world": BOX[:4] + [(5, 1)]}),
    (tights.has_inside, {"book": FIVE, "world": BOX}),
    (tights.inside_point, {"book": FIVE, "world": BOX}),
    (tights.core, {"book": FIVE, "world": BOX}),
    (tights.dimension, {"book": FIVE, "world": BOX}),
    (tights.is_bounded, {"book": FIVE, "world": BOX}),
    (leasts.lesser_closed, {"book": THREE}),
    (leasts.greater_closed, {"book": LATE}),
    (leasts.lesser_pair, {"book": THREE}),
    (leasts.is_lesser_pair, {"book": THREE, "value": PAIR}),
    (leasts.least_point, {"book": LATE, "world": [(-2, 1), (0, 1), (-3, 1)]}),
    (sights.sights, {"book": LEAN, "hidden": [1]}),
    (sights.shown, {"book": LEAN, "hidden": [1], "sight": SIGHT}),
    (sights.seen_kinds, {"book": LEAN, "hidden": [1]}),
    (sights.seen_rules, {"book": LEAN, "world": LOOSE, "hidden": [1]}),
    (sights.is_seen, {"book": LEAN, "world": LOOSE, "hidden": [1], "point": ((1, 1),)}),
    (sights.completed, {"book": LEAN, "world": LOOSE, "hidden": [1], "point": ((1, 1),)}),
    (sights.seen_size, {"book": LEAN, "hidden": [1]}),
    (sights.barring, {"book": LEAN, "hidden": [1], "sight": SIGHT}),
    (sights.is_barring, {"book": LEAN, "hidden": [1], "sight": SIGHT, "value": BARRING}),
    (wholes.is_level, {"book": THREE}),
    (wholes.whole_size, {"book": TILTED}),
    (wholes.cross, {"book": TILTED}),
    (wholes.is_cross, {"book": TILTED, "value": SIGN}),
    (wholes.rounded, {"book": THREE, "world": WORLD}),
    (wholes.whole_forcing, {"book": TILTED}),
    (wholes.cross_rules, {"book": TILTED, "sign": SIGN}),
    (wholes.middle, {"book": TILTED, "sign": SIGN}),
    (ranges.depth_of, {"ranges": SOME}),
    (ranges.crowd_place, {"ranges": SOME}),
    (ranges.meeting_pairs, {"ranges": SOME}),
    (ranges.most_pairs, {"number": 5, "depth": 2}),
    (ranges.forced_depth, {"number": 5, "pairs": 4}),
    (ranges.crowded, {"number": 5, "depth": 2}),
    (ranges.apart, {"ranges": SOME}),
    (ranges.hitting, {"ranges": SOME}),
    (ranges.most_without, {"ranges": SOME, "number": 2}),
    (ranges.have_meetings, {"ranges": SOME, "size": 4, "number": 2}),
    (ranges.fewest_left, {"ranges": SOME}),
    (parties.all_meet, {"book": THREE, "parties": GUESTS}),
    (parties.party_clashes, {"book": THREE, "parties": GUESTS}),
    (parties.crowds, {"book": THREE, "parties": GUESTS}),
    (parties.fewest_parties_out, {"book": THREE, "parties": GUESTS}),
    (parties.meeting_place, {"book": THREE, "parties": GUESTS[1:]}),
    (parties.combined, {"book": THREE, "parties": GUESTS[1:]}),
    (texts.format_book, {"book": THREE}),
    (texts.format_rules, {"book": THREE, "rules": RULES}),
    (texts.parse_book, {"text": "-1,0 1,0"}),
    (texts.parse_rules, {"book": THREE, "text": "1:-7/3 0:2"}),
]

ERRORS = {
    "book": errors.InvalidBook, "other_book": errors.InvalidBook, "numbers": errors.InvalidNumbers,
    "point": errors.InvalidPoint, "world": errors.InvalidWorld, "other": errors.InvalidWorld, "rules": errors.InvalidRules,
    "matrix": errors.InvalidMatrix, "number": errors.InvalidNumber, "size": errors.InvalidNumber,
    "reach": errors.InvalidNumber, "depth": errors.InvalidNumber, "kind": errors.InvalidKind, "knot": errors.InvalidKnot,
    "fan": errors.InvalidFan, "firmness": errors.InvalidFirmness, "speeds": errors.InvalidSpeeds,
    "time": errors.InvalidFraction, "bound": errors.InvalidFraction, "hidden": errors.InvalidHidden,
    "sight": errors.InvalidSight, "sign": errors.InvalidCross, "ranges": errors.InvalidRanges,
    "parties": errors.InvalidParties, "text": errors.InvalidText,
    ("arrows", "pairs"): errors.InvalidArrows, ("forced_depth", "pairs"): errors.InvalidNumber,
}

# Values among the odd ones of the samples that are no wrong ones here.
NO_ERRORS = {
    ("ring_number", "size"): [10 ** 59], ("fewest_out", "size"): [10 ** 59], ("most_without", "number"): [10 ** 59],
    ("have_meetings", "size"): [10 ** 59], ("parse_book", "text"): ["1,0"], ("parse_rules", "text"): [""],
    ("all_meet", "parties"): [[[]]], ("party_clashes", "parties"): [[[]]], ("crowds", "parties"): [[[]]],
    ("fewest_parties_out", "parties"): [[[]]], ("meeting_place", "parties"): [[[]]], ("combined", "parties"): [[[]]],
}


def error_for(call, name):
    """The error of a parameter of a function; None if it takes any value."""
    return ERRORS.get((call.__name__, name), ERRORS.get(name))
