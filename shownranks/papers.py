"""Papers: the rank of a text for an asking, and all the numbers of which it is made."""

from shownranks.answering import answers_by_inner
from shownranks.askings import By
from shownranks.counts import leaf_counts, names_with
from shownranks.fractions import sum_of_lowest, times_lowest
from shownranks.leaves import ALL_PARTS, is_leaf, parts_within


def sum_of_ranks(ranks):
    """The sum of fractions."""
    total = (0, 1)
    for rank in ranks:
        total = sum_of_lowest(total, rank)
    return total


def node_rank(asking, ranks):
    """The rank for an asking that is no leaf, by the ranks for those that it is made of; None is no answer."""
    if not answers_by_inner(asking, [rank is not None for rank in ranks]):
        return None
    if isinstance(asking, By):
        return times_lowest(asking.times, ranks[0])
    # A But that is answered has no rank for its second one, so of it the first one's alone is left.
    return sum_of_ranks([rank for rank in ranks if rank is not None])


def weighed(weights, counts):
    """The sum of weight times count."""
    return sum([weight * count for weight, count in zip(weights, counts)])


def leaf_paper(book, weighing, name, n, counts):
    """The paper of a text for a leaf that stands in n texts, by its counts in the three parts of this one."""
    t = weighed(weighing.weights(), counts)
    length = book.length(name)
    rank = None
    if max(counts) > 0:
        rank = weighing.leaf_rank(n, t, length, len(book.names()), book.total())
    return (rank, (n, counts, t, length), ())


def leaf_papers(book, weighing, names, parts, leaf):
    """The papers of some texts for a leaf that is looked for in these parts."""
    counts = leaf_counts(book, leaf)
    n = len(names_with(counts, parts))
    papers = {}
    for name in names:
        three = tuple([counts.get((name, part), 0) if part in parts else 0 for part in ALL_PARTS])
        papers[name] = leaf_paper(book, weighing, name, n, three)
    return papers


def papers_within(book, weighing, names, parts, asking):
    """The papers of some texts for an asking that is looked for in these parts."""
    if is_leaf(asking):
        return leaf_papers(book, weighing, names, parts, asking)
    further = parts_within(asking, parts)
    found = [papers_within(book, weighing, names, further, inner) for inner in asking.inner_ones()]
    papers = {}
    for name in names:
        inner_papers = tuple([some[name] for some in found])
        papers[name] = (node_rank(asking, [paper[0] for paper in inner_papers]), (), inner_papers)
    return papers


def papers_of(book, weighing, names, asking):
    """A dict from some names of a book to their papers, made together: the leaves are counted once for all."""
    return papers_within(book, weighing, names, ALL_PARTS, asking)


def paper_of(book, weighing, name, asking):
    """The paper of a text for an asking: a tuple (rank, numbers, parts)."""
    book.check_name(name)
    return papers_of(book, weighing, [name], asking)[name]


def rank_of(book, weighing, name, asking):
    """The rank of a text for an asking, a fraction, or None where it does not answer."""
    return paper_of(book, weighing, name, asking)[0]
