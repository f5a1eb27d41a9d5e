"""Exact fractions: tuples (top, bottom) in lowest terms, the bottom above 0."""


def common_divisor(one, other):
    """The greatest number that divides both, of numbers from 0 on that are not both 0."""
    while other != 0:
        one, other = other, one % other
    return one


def fraction(top, bottom):
    """The fraction of two whole numbers, the bottom not 0."""
    divisor = common_divisor(abs(top), abs(bottom))
    if bottom < 0:
        divisor = -divisor
    return (top // divisor, bottom // divisor)


def sum_of(one, other):
    """The sum of two fractions."""
    return fraction(one[0] * other[1] + other[0] * one[1], one[1] * other[1])


def product_of(one, other):
    """The product of two fractions."""
    return fraction(one[0] * other[0], one[1] * other[1])


def sum_of_lowest(one, other):
    """The sum of two fractions that are in lowest terms already, as ranks are."""
    # A divisor of the sum's top and bottom divides both bottoms, so that no divisor of two great numbers
    # must be found where a great fraction grows by a small one.
    shared = common_divisor(one[1], other[1])
    top = one[0] * (other[1] // shared) + other[0] * (one[1] // shared)
    divisor = common_divisor(abs(top), shared)
    return (top // divisor, one[1] // shared * (other[1] // divisor))


def times_lowest(times, one):
    """So many times a fraction that is in lowest terms already, as ranks are; times from 0 on."""
    divisor = common_divisor(times, one[1])
    return (times // divisor * one[0], one[1] // divisor)


def is_less(one, other):
    """Whether the first fraction is below the second."""
    return one[0] * other[1] < other[0] * one[1]
