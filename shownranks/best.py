"""The best so many of a list, and which blocks were gone through for them."""

from shownranks.blocks import blocks_of
from shownranks.bounds import bound_by_papers
from shownranks.errors import NoMany
from shownranks.fractions import is_less
from shownranks.lists import list_by_papers
from shownranks.papers import papers_of
from shownranks.wholes import is_whole_from_to


def is_gone_through(bound, best, many):
    """Whether a block with a bound of this rank must be gone through for the best so many."""
    if bound is None:
        return False
    return len(best) < many or not is_less(bound, best[-1][1])


def best_of(book, weighing, asking, many, wide):
    """The best so many, by blocks that are so wide: a tuple (list, gone, skipped)."""
    if not is_whole_from_to(many, 1, 40):
        raise NoMany("the best are from 1 to 40")
    blocks = blocks_of(book, wide)
    papers = papers_of(book, weighing, book.names(), asking)
    best = list_by_papers(papers)[:many]
    gone = []
    skipped = []
    for number, names in enumerate(blocks):
        bound = bound_by_papers(book, weighing, [papers[name] for name in names], asking)[0]
        if is_gone_through(bound, best, many):
            gone.append((number, bound))
        else:
            skipped.append((number, bound))
    return (best, gone, skipped)
