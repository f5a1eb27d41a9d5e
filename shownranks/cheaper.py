"""Cheaper askings: an asking without steps, and the steps to it."""

from shownranks.paths import with_node
from shownranks.rules import steps_of


def cheaper(asking):
    """A tuple (asking, steps): one without steps, and the list of steps that lead to it."""
    steps = []
    further = steps_of(asking)
    # Each step lowers the cost, so this comes to an end.
    while further:
        rule, path, put = further[0]
        steps.append((rule, path, put))
        asking = with_node(asking, path, put)
        further = steps_of(asking)
    return (asking, steps)
