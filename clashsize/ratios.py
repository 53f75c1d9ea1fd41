"""Reckoning with fractions, tuples (numerator, denominator); nothing is checked here."""

from math import gcd


def lowest(numerator, denominator):
    """The fraction with this value, for a denominator above 0."""
    common = gcd(numerator, denominator)
    return (numerator // common, denominator // common)


def dot(numbers, point):
    """The sum of the products of integers and the fractions of a point."""
    total = (0, 1)
    for number, (numerator, denominator) in zip(numbers, point):
        top = total[0] * denominator + number * numerator * total[1]
        total = lowest(top, total[1] * denominator)
    return total


def at_most(one, other):
    """Whether one fraction is at most the other one."""
    return one[0] * other[1] <= other[0] * one[1]
