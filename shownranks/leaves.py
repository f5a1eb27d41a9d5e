"""Leaves: where they stand in an asking, and the parts in which each is looked for."""

from shownranks.askings import Begin, In, Near, Row, Word

ALL_PARTS = (0, 1, 2)


def is_leaf(asking):
    """Whether an asking is a leaf."""
    return isinstance(asking, (Word, Begin, Row, Near))


def parts_within(asking, parts):
    """Where what is within an asking is looked for, the asking itself being looked for in these parts."""
    if isinstance(asking, In):
        return tuple([part for part in parts if part == asking.part])
    return parts


def leaves_within(asking, path, parts):
    """The leaves of the asking at a path that is looked for in these parts."""
    if is_leaf(asking):
        return [(path, parts)]
    leaves = []
    for at, inner in enumerate(asking.inner_ones()):
        leaves.extend(leaves_within(inner, path + (at,), parts_within(asking, parts)))
    return leaves


def leaves_of(asking):
    """All leaves: a list of tuples (path, parts), in the order of paths."""
    return leaves_within(asking, (), ALL_PARTS)
