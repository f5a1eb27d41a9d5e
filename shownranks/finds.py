"""Finds: where in a text the leaves of an asking stand."""

from shownranks.askings import But
from shownranks.counts import firsts_and_lasts, looked_up_words, places_by_part
from shownranks.leaves import leaves_of
from shownranks.paths import node_at
from shownranks.reading import show_asking


def is_behind(asking, path):
    """Whether the node at a path is the second of a But, or within it."""
    node = asking
    for at in path:
        if isinstance(node, But) and at == 1:
            return True
        node = node.inner_ones()[at]
    return False


def leaf_finds(book, name, parts, leaf):
    """The finds of one leaf that is looked for in these parts."""
    found = places_by_part(book, looked_up_words(book, leaf))
    written = show_asking(leaf)
    finds = []
    for part in parts:
        spans = {place: (begin, end) for word, place, begin, end in book.words_in(name, part)}
        for first, last in firsts_and_lasts(leaf, found.get((name, part), {})):
            finds.append((part, spans[first][0], spans[last][1], written))
    return finds


def finds_of(book, name, asking):
    """The finds of a text for an asking: the sorted list of tuples (part, begin, end, leaf as written)."""
    book.check_name(name)
    finds = []
    for path, parts in leaves_of(asking):
        if not is_behind(asking, path):
            finds.extend(leaf_finds(book, name, parts, node_at(asking, path)))
    return sorted(set(finds))
