"""Lists: all texts that answer an asking, the greater rank first."""

from shownranks.fractions import is_less
from shownranks.papers import papers_of


def place_in_list(listed, rank):
    """Where one of this rank comes in a list: behind all that are no less."""
    at = len(listed)
    while at > 0 and is_less(listed[at - 1][1], rank):
        at -= 1
    return at


def list_of(book, weighing, asking):
    """The list of tuples (name, rank), the greater rank first, of alike ones by name."""
    names = book.names()
    papers = papers_of(book, weighing, names, asking)
    listed = []
    # By name, so that of alike ones each comes behind those with lesser names.
    for name in names:
        rank = papers[name][0]
        if rank is not None:
            listed.insert(place_in_list(listed, rank), (name, rank))
    return listed
