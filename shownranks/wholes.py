"""Whole numbers, True and False left out."""


def is_whole_from_to(thing, least, most):
    """Whether a thing of any kind is a whole number from least to most."""
    return isinstance(thing, int) and not isinstance(thing, bool) and least <= thing <= most
