"""Exact fractions: tuples (top, bottom) in lowest terms, the bottom above 0."""


def common_divisor(one, other):
    """The greatest number that divides both, of numbers from 0 on that are not both 0."""
    while other != 0:
        one, other = other, one % other
    return one


def fraction(top, bottom):
    """The fraction of two whole numbers, the bottom not 0."""
    divisor = common_divisor(abs(top), abs(bottom))
    if bottom < 0:
        divisor = -divisor
    return (top // divisor, bottom // divisor)


def sum_of(one, other):
    """The sum of two fractions."""
    return fraction(one[0] * other[1] + other[0] * one[1], one[1] * other[1])


def product_of(one, other):
    """The product of two fractions."""
    return fraction(one[0] * other[0], one[1] * other[1])


def is_less(one, other):
    """Whether the first fraction is below the second."""
    return one[0] * other[1] < other[0] * one[1]
