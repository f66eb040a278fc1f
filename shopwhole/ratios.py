"""Exact fractions: pairs (above, below) without common divisors, below being above 0."""

from math import gcd


def fraction(above, below):
    """The fraction of two integers, the second one not 0."""
    common = gcd(above, below)
    if below < 0:
        common = -common
    return (above // common, below // common)


def sum_of_two(one, other):
    """The sum of two fractions."""
    return fraction(one[0] * other[1] + other[0] * one[1], one[1] * other[1])


def product_of_two(one, other):
    """The product of two fractions."""
    return fraction(one[0] * other[0], one[1] * other[1])


def minus(one):
    """Minus a fraction."""
    return (-one[0], one[1])
