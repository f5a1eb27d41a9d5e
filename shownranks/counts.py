"""Counts: how often a leaf stands in the parts of texts, and in how many texts."""

from shownranks.askings import Begin, Near, Row, Word


def looked_up_words(book, leaf):
    """The words whose places a leaf's counts are made of."""
    if isinstance(leaf, Word):
        return [leaf.word]
    if isinstance(leaf, Begin):
        return book.begun(leaf.start)
    if isinstance(leaf, Row):
        return list(leaf.row_words)
    return [leaf.one, leaf.other]


def places_by_part(book, words):
    """Of each (name, part) in which one of the words stands, a dict from such words to their places there."""
    found = {}
    for word in words:
        for name, part, places in book.where(word):
            places_here = found.setdefault((name, part), {})
            places_here[word] = places
    return found


def row_starts(places):
    """The places from which on words stand at following places, by the list of each one's places."""
    starts = places[0]
    for step, further in enumerate(places):
        there = {place: True for place in further}
        starts = [place for place in starts if place + step in there]
    return starts


def pairs_behind(places, others, far):
    """The pairs of one of the places and one of the others, behind it and at most so far."""
    there = {place: True for place in others}
    return [(place, place + step) for place in places for step in range(1, far + 1) if place + step in there]


def near_pairs(leaf, places):
    """The pairs (earlier, later) of places that a Near counts in a part, by its words' places there."""
    ones = places.get(leaf.one, [])
    others = places.get(leaf.other, [])
    pairs = pairs_behind(ones, others, leaf.far)
    # Of one word twice, the other way round would be the same pairs again.
    if leaf.one != leaf.other:
        pairs.extend(pairs_behind(others, ones, leaf.far))
    return pairs


def firsts_and_lasts(leaf, places):
    """The pairs (first, last) of places between which a leaf stands in a part, by its words' places there."""
    if isinstance(leaf, Row):
        starts = row_starts([places.get(word, []) for word in leaf.row_words])
        return [(start, start + len(leaf.row_words) - 1) for start in starts]
    if isinstance(leaf, Near):
        return near_pairs(leaf, places)
    return [(place, place) for some in places.values() for place in some]


def count_by_places(leaf, places):
    """A leaf's count in a part, by the dict from its words to their places there."""
    return len(firsts_and_lasts(leaf, places))


def leaf_counts(book, leaf):
    """A leaf's count of each (name, part); where it lacks one, the count is 0."""
    found = places_by_part(book, looked_up_words(book, leaf))
    return {spot: count_by_places(leaf, found[spot]) for spot in found}


def names_with(counts, parts):
    """The names of the texts in which a leaf of these counts stands, looked for in these parts; sorted."""
    return sorted({name for name, part in counts if part in parts and counts[(name, part)] > 0})


def count_of(book, name, part, leaf):
    """A leaf's count in one part of a text."""
    book.check_name(name)
    found = places_by_part(book, looked_up_words(book, leaf))
    return count_by_places(leaf, found.get((name, part), {}))


def many_with(book, parts, leaf):
    """In how many texts a leaf stands, looked for in these parts."""
    return len(names_with(leaf_counts(book, leaf), parts))
