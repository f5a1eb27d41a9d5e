"""Paths: where the nodes of an asking stand, () being the whole's."""

from shownranks.errors import NoPath


def many_nodes(asking):
    """How many nodes an asking has."""
    return 1 + sum([many_nodes(inner) for inner in asking.inner_ones()])


def paths_of(asking):
    """The paths of all nodes, a node's ahead of its parts', these in order."""
    paths = [()]
    for at, inner in enumerate(asking.inner_ones()):
        paths.extend([(at,) + path for path in paths_of(inner)])
    return paths


def check_part(some, at):
    """Refuse a number that none of a node's parts has."""
    if not 0 <= at < len(some):
        raise NoPath("the asking has no node at this path")


def node_at(asking, path):
    """The node at a path."""
    node = asking
    for at in path:
        some = node.inner_ones()
        check_part(some, at)
        node = some[at]
    return node


def with_node(asking, path, other):
    """The asking with another one put at a path."""
    if len(path) == 0:
        return other
    at = path[0]
    some = asking.inner_ones()
    check_part(some, at)
    some[at] = with_node(some[at], path[1:], other)
    return asking.with_inner(some)
