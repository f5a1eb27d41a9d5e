"""Bounds: what no text of some ranks above, and all the numbers of which that is made."""

from shownranks.askings import But
from shownranks.leaves import is_leaf
from shownranks.papers import node_rank, papers_of


def leaf_bound(book, weighing, papers):
    """The bound of some texts for a leaf, by their papers for it."""
    n = papers[0][1][0]
    standing = [numbers for rank, numbers, parts in papers if rank is not None]
    if len(standing) == 0:
        return (None, (n, 0, 0), ())
    t = max([numbers[2] for numbers in standing])
    length = min([numbers[3] for numbers in standing])
    return (weighing.leaf_rank(n, t, length, len(book.names()), book.total()), (n, t, length), ())


def node_bound(asking, ranks):
    """The rank of a bound for an asking that is no leaf, by the ranks of the bounds for those that it is made of."""
    # That one of the texts may answer the second of a But keeps no other text from answering the whole.
    if isinstance(asking, But):
        return ranks[0]
    return node_rank(asking, ranks)


def bound_by_papers(book, weighing, papers, asking):
    """The bound of some texts, one at least, for an asking, by the list of their papers for it."""
    if is_leaf(asking):
        return leaf_bound(book, weighing, papers)
    bounds = []
    for at, inner in enumerate(asking.inner_ones()):
        inner_papers = [parts[at] for rank, numbers, parts in papers]
        bounds.append(bound_by_papers(book, weighing, inner_papers, inner))
    return (node_bound(asking, [bound[0] for bound in bounds]), (), tuple(bounds))


def bound_of(book, weighing, names, asking):
    """The bound of some texts, one at least, for an asking: a tuple (rank, numbers, parts)."""
    for name in names:
        book.check_name(name)
    papers = papers_of(book, weighing, names, asking)
    return bound_by_papers(book, weighing, list(papers.values()), asking)
