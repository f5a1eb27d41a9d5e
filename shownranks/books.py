"""Books: texts of three parts, cut into words once, and where each word stands."""

from shownranks.errors import Lacking
from shownranks.words import runs_of, words_of_runs


def places_of(words):
    """Of each word the rising list of its places."""
    places = {}
    for word, place, begin, end in words:
        places.setdefault(word, []).append(place)
    return places


def spots_of(cut):
    """Of each word the list of tuples (name, part, places), in the order of the cut texts."""
    spots = {}
    for name in cut:
        for part, words in enumerate(cut[name]):
            for word, places in places_of(words).items():
                spots.setdefault(word, []).append((name, part, places))
    return spots


class Book:
    """A rulebook and texts, a dict from names to tuples (head, body, marks)."""

    def __init__(self, rulebook, texts):
        self.rules = rulebook
        # Sorted here, so that all that is told in the order of names needs no more sorting.
        self.kept_parts = {name: tuple(texts[name]) for name in sorted(texts)}
        runs = {name: [runs_of(part) for part in self.kept_parts[name]] for name in self.kept_parts}
        self.lengths = {name: sum([len(some) for some in runs[name]]) for name in runs}
        self.cut = {name: [words_of_runs(rulebook, some) for some in runs[name]] for name in runs}
        self.spots = spots_of(self.cut)

    def check_name(self, name):
        """Refuse what is none of the names; a thing that is no text may not even be looked for."""
        if not isinstance(name, str) or name not in self.kept_parts:
            raise Lacking("the book has no text of this name")

    def rulebook(self):
        """The rulebook by which the texts are cut."""
        return self.rules

    def names(self):
        """The names of all texts, sorted."""
        return list(self.kept_parts)

    def words(self):
        """All words, each once, sorted."""
        return sorted(self.spots)

    def begun(self, start):
        """The words that begin with a text, sorted."""
        return [word for word in sorted(self.spots) if word.startswith(start)]

    def where(self, word):
        """Where a word stands: the sorted list of tuples (name, part, places)."""
        return [(name, part, list(places)) for name, part, places in self.spots.get(word, [])]

    def length(self, name):
        """How many runs a text has in all its parts, silent ones too."""
        self.check_name(name)
        return self.lengths[name]

    def total(self):
        """How many runs all texts have together."""
        return sum(self.lengths.values())

    def parts(self, name):
        """The head, the body and the marks of a text."""
        self.check_name(name)
        return self.kept_parts[name]

    def words_in(self, name, part):
        """The words of one part of a text: a list of tuples (word, place, begin, end)."""
        self.check_name(name)
        return list(self.cut[name][part])
