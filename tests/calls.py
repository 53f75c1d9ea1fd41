"""Each function of the interface with arguments that it takes, and the error of each parameter."""

from clashsize import changes, clashes, errors, families, kinds, knots, moves, parts, tights, ways, worlds

from samples import BOXES2, LINE, THREE, TWELVE

POINT = ((1, 2), (-1, 3))
WORLD = [(5, 1), None, (1, 2)]
TIGHT = [(-1, 1), (0, 1), (0, 1)]
RULES = [(0, (5, 1)), (0, (3, 1)), (2, (1, 2))]
KNOT = [(0, 1), (1, 1), (2, 1)]
HALF = [(-1, 0), (0, 1), (1, 0)]
FORCING = ([(0, (-1, 1)), (1, (0, 1)), (2, (0, 1))], [((0, 1), (0, 1)), ((0, 1), (1, 1)), ((1, 1), (0, 1))])
FIVE = BOXES2 + [(1, 1)]
BOX = [(0, 1), (0, 1), (3, 1), (2, 1), None]
CLASHING = [(0, (-3, 1)), (1, (1, 1)), (2, (1, 1)), (2, (9, 1)), (1, (0, 1))]
SPEEDS = [(0, 1), (1, 1), (-1, 2)]
CONCLUDING = ([(0, (0, 1)), (1, (0, 1))], [((-1, 1), (0, 1)), ((-1, 1), (1, 1))])

# Each function with arguments in the order of its signature.
CALLS = [
    (kinds.is_kind, {"value": (1, 0)}),
    (kinds.is_book, {"value": THREE}),
    (kinds.is_fraction, {"value": (1, 2)}),
    (kinds.is_rules, {"book": THREE, "value": RULES}),
    (kinds.is_world, {"book": THREE, "value": WORLD}),
    (kinds.is_point, {"book": THREE, "value": POINT}),
    (kinds.product, {"book": THREE, "numbers": (2, 5), "point": POINT}),
    (kinds.obeys, {"book": THREE, "rules": RULES, "point": POINT}),
    (kinds.is_in, {"book": THREE, "world": WORLD, "point": POINT}),
    (kinds.rank, {"book": THREE}),
    (kinds.world_of, {"book": THREE, "rules": RULES}),
    (kinds.opposites, {"book": THREE}),
    (kinds.mixed, {"book": THREE, "matrix": ((1, 1), (0, 1))}),
    (kinds.beside, {"book": THREE, "other_book": LINE}),
    (knots.knots, {"book": THREE}),
    (knots.knot_numbers, {"book": THREE}),
    (knots.clash_size, {"book": THREE}),
    (knots.is_knot, {"book": THREE, "value": KNOT}),
    (knots.greatest_knot, {"book": THREE}),
    (knots.knots_with, {"book": THREE, "number": 1}),
    (parts.free_kinds, {"book": HALF}),
    (parts.falling, {"book": TWELVE}),
    (parts.sliding, {"book": HALF}),
    (parts.is_falling, {"book": TWELVE, "value": (-12, 1)}),
    (parts.is_sliding, {"book": HALF, "value": (0, -1)}),
    (parts.components, {"book": FIVE}),
    (parts.pairs_enough, {"book": THREE}),
    (parts.is_two_sided, {"book": BOXES2}),
    (worlds.knot_sum, {"book": THREE, "knot": KNOT, "world": TIGHT}),
    (worlds.broken, {"book": THREE, "world": TIGHT}),
    (worlds.has_points, {"book": THREE, "world": WORLD}),
    (worlds.breaking, {"book": THREE, "knot": KNOT}),
    (worlds.breaks_alone, {"book": THREE, "knot": KNOT, "value": TIGHT}),
    (worlds.forcing, {"book": THREE}),
    (worlds.is_forcing, {"book": THREE, "value": FORCING}),
    (families.boxes, {"number": 3}),
    (families.differences, {"number": 3}),
    (families.arrows, {"number": 3, "pairs": [(0, 1), (1, 2), (2, 0)]}),
    (families.ring_number, {"number": 4, "size": 3}),
    (families.ring_total, {"number": 4}),
    (families.box_size, {"kind": (1, 0, -2)}),
    (families.fan_numbers, {"fan": BOXES2}),
    (changes.size_with, {"book": BOXES2, "kind": (1, 1)}),
    (changes.adds_knots, {"book": BOXES2, "kind": (1, 1)}),
    (changes.blocking, {"book": TWELVE, "kind": (2, 1)}),
    (changes.is_blocking, {"book": TWELVE, "kind": (2, 1), "value": (-12, 1)}),
    (changes.raising, {"book": BOXES2, "reach": 1}),
    (changes.needed_kinds, {"book": FIVE}),
    (changes.fewest_out, {"book": FIVE, "size": 2}),
    (clashes.meet, {"book": THREE, "rules": RULES}),
    (clashes.point_of, {"book": THREE, "rules": RULES}),
    (clashes.clash_number, {"book": THREE, "rules": CLASHING}),
    (clashes.clashes, {"book": THREE, "rules": CLASHING}),
    (clashes.clash_of, {"book": THREE, "rules": CLASHING}),
    (clashes.is_clash, {"book": THREE, "rules": CLASHING, "value": [(0, 1), (1, 1), (2, 1)]}),
    (moves.loosening, {"book": THREE, "world": TIGHT, "firmness": [1, 2, 3]}),
    (moves.holding, {"book": THREE, "world": TIGHT, "firmness": [1, 2, 3]}),
    (moves.moved, {"book": THREE, "world": WORLD, "speeds": SPEEDS, "time": (2, 3)}),
    (moves.meeting_times, {"book": THREE, "world": TIGHT, "speeds": SPEEDS}),
    (ways.ways, {"book": FIVE, "numbers": (1, 1)}),
    (ways.is_way, {"book": FIVE, "numbers": (1, 1), "value": [(4, (1, 1))]}),
    (ways.conclusion_size, {"book": FIVE, "numbers": (1, 1)}),
    (ways.greatest, {"book": FIVE, "world": BOX, "numbers": (2, 1)}),
    (ways.highest, {"book": FIVE, "world": BOX, "numbers": (2, 1)}),
    (ways.follows, {"book": FIVE, "world": BOX, "numbers": (2, 1), "bound": (7, 1)}),
    (ways.rising, {"book": FIVE, "world": [(0, 1), None, None, None, None], "numbers": (2, 1)}),
    (ways.is_rising, {"book": THREE, "world": [None] * 3, "numbers": (2, 1), "value": (1, 1)}),
    (ways.concluding, {"book": FIVE, "numbers": (2, 1)}),
    (ways.is_concluding, {"book": THREE, "numbers": (-1, 0), "value": CONCLUDING}),
    (tights.tight, {"book": FIVE, "world": BOX}),
    (tights.same_points, {"book": FIVE, "world": BOX, "other": BOX[:4] + [(5, 1)]}),
    (tights.parting, {"book": FIVE, "world": BOX, "other": BOX[:4] + [(4, 1)]}),
    (tights.covering, {"book": FIVE, "world": BOX, "other": BOX[:4] + [(4, 1)]}),
    (tights.idle, {"book": FIVE, "world": BOX[:4] + [(5, 1)]}),
    (tights.has_inside, {"book": FIVE, "world": BOX}),
    (tights.inside_point, {"book": FIVE, "world": BOX}),
    (tights.core, {"book": FIVE, "world": BOX}),
    (tights.dimension, {"book": FIVE, "world": BOX}),
    (tights.is_bounded, {"book": FIVE, "world": BOX}),
]

ERRORS = {
    "book": errors.InvalidBook, "other_book": errors.InvalidBook, "numbers": errors.InvalidNumbers,
    "point": errors.InvalidPoint, "world": errors.InvalidWorld, "other": errors.InvalidWorld, "rules": errors.InvalidRules,
    "matrix": errors.InvalidMatrix, "number": errors.InvalidNumber, "size": errors.InvalidNumber,
    "reach": errors.InvalidNumber, "kind": errors.InvalidKind, "knot": errors.InvalidKnot, "pairs": errors.InvalidArrows,
    "fan": errors.InvalidFan, "firmness": errors.InvalidFirmness, "speeds": errors.InvalidSpeeds,
    "time": errors.InvalidFraction, "bound": errors.InvalidFraction,
}

# Great numbers are no wrong sizes.
NO_ERRORS = {("ring_number", "size"): [10 ** 59], ("fewest_out", "size"): [10 ** 59]}
