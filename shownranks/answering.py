"""Answering: which texts of a book answer an asking."""

from shownranks.askings import All, Any, But, Never
from shownranks.counts import leaf_counts, names_with
from shownranks.leaves import ALL_PARTS, is_leaf, parts_within


def answers_by_inner(asking, inner):
    """Whether a text answers an asking that is no leaf, by whether it answers each of those that it is made of."""
    if isinstance(asking, Never):
        return False
    if isinstance(asking, All):
        return all(inner)
    if isinstance(asking, Any):
        return any(inner)
    if isinstance(asking, But):
        return inner[0] and not inner[1]
    return inner[0]


def answering_names(book, parts, asking):
    """The sorted names of the texts that answer an asking that is looked for in these parts."""
    if is_leaf(asking):
        return names_with(leaf_counts(book, asking), parts)
    further = parts_within(asking, parts)
    found = [answering_names(book, further, inner) for inner in asking.inner_ones()]
    return [name for name in book.names() if answers_by_inner(asking, [name in names for names in found])]


def answers_of(book, asking):
    """The sorted names of the texts that answer an asking."""
    return answering_names(book, ALL_PARTS, asking)


def does_answer(book, name, asking):
    """Whether a text answers an asking."""
    book.check_name(name)
    return name in answers_of(book, asking)
