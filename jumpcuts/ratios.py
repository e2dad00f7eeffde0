"""Ratios: pairs (top, low) of integers without a common divisor, low above 0."""

from math import gcd

NOUGHT = (0, 1)
ONE = (1, 1)


def ratio(top, low):
    """The ratio of two integers, the second one above 0."""
    common = gcd(top, low)
    return (top // common, low // common)


def plus(one, other):
    """The sum of two ratios."""
    return ratio(one[0] * other[1] + other[0] * one[1], one[1] * other[1])


def times(one, other):
    """The product of two ratios."""
    return ratio(one[0] * other[0], one[1] * other[1])
