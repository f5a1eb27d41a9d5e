"""Blocks: the names of a book, sorted, so many each."""

from shownranks.errors import NoMany
from shownranks.wholes import is_whole_from_to


def blocks_of(book, wide):
    """The blocks of a book: a list of lists of names, so many each, the last one perhaps fewer."""
    if not is_whole_from_to(wide, 1, 40):
        raise NoMany("a block has from 1 to 40 names")
    names = book.names()
    return [names[begin:begin + wide] for begin in range(0, len(names), wide)]
