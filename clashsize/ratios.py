"""Reckoning with fractions, tuples (numerator, denominator); nothing is checked here."""

from math import gcd, lcm


def lowest(numerator, denominator):
    """The fraction with this value, for a denominator above 0."""
    common = gcd(numerator, denominator)
    return (numerator // common, denominator // common)


def plus(one, other):
    """The sum of two fractions."""
    return lowest(one[0] * other[1] + other[0] * one[1], one[1] * other[1])


def minus(one, other):
    """One fraction less the other one."""
    return lowest(one[0] * other[1] - other[0] * one[1], one[1] * other[1])


def times(one, other):
    """The product of two fractions."""
    return lowest(one[0] * other[0], one[1] * other[1])


def divided(one, other):
    """One fraction divided by the other one, which is not 0."""
    sign = 1 if other[0] > 0 else -1
    return lowest(sign * one[0] * other[1], one[1] * abs(other[0]))


def negative(fraction):
    """The fraction with the other sign."""
    return (-fraction[0], fraction[1])


def dot(numbers, point):
    """The sum of the products of integers and the fractions of a point."""
    total = (0, 1)
    for number, (numerator, denominator) in zip(numbers, point):
        top = total[0] * denominator + number * numerator * total[1]
        total = lowest(top, total[1] * denominator)
    return total


def at_most(one, other):
    """Whether one fraction is at most the other one."""
    return one[0] * other[1] <= other[0] * one[1]


def least(fractions):
    """The least of some fractions; None if there are none."""
    found = None
    for fraction in fractions:
        if found is None or at_most(fraction, found):
            found = fraction
    return found


def most(fractions):
    """The greatest of some fractions; None if there are none."""
    found = None
    for fraction in fractions:
        if found is None or at_most(found, fraction):
            found = fraction
    return found


def integers(fractions):
    """The list of the fractions times their least common denominator."""
    common = 1
    for fraction in fractions:
        common = lcm(common, fraction[1])
    return [fraction[0] * (common // fraction[1]) for fraction in fractions]
