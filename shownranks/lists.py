"""Lists: all texts that answer an asking, the greater rank first."""

from shownranks.fractions import is_less
from shownranks.papers import papers_of


def place_in_list(listed, rank):
    """Where one of this rank comes in a list: behind all that are no less."""
    at = len(listed)
    while at > 0 and is_less(listed[at - 1][1], rank):
        at -= 1
    return at


def list_by_papers(papers):
    """The list, by the dict from all names, sorted, to their papers."""
    listed = []
    # By name, so that of alike ones each comes behind those with lesser names.
    for name in papers:
        rank = papers[name][0]
        if rank is not None:
            listed.insert(place_in_list(listed, rank), (name, rank))
    return listed


def list_of(book, weighing, asking):
    """The list of tuples (name, rank), the greater rank first, of alike ones by name."""
    return list_by_papers(papers_of(book, weighing, book.names(), asking))
