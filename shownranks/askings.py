"""Askings: what a text is asked for, in eleven sorts; none changes once it is made."""

from shownranks.errors import NoAsking
from shownranks.signs import is_plain_word

MOST_TIMES = 999


def check_words(words):
    """Refuse a list with what is no plain word."""
    for word in words:
        if not is_plain_word(word):
            raise NoAsking("a word is made of one to twenty small letters and figures")


def check_number(number, least, most):
    """Refuse a number, of words too, that is not from least to most."""
    if not least <= number <= most:
        raise NoAsking(f"a number from {least} to {most} is due here")


def check_some(askings):
    """Refuse a list without askings."""
    if len(askings) == 0:
        raise NoAsking("there is one asking at least")


def told_ones(askings):
    """The tuple of what askings tell of themselves."""
    return tuple([asking.told() for asking in askings])


class Asking:
    """What all the sorts are; each tells for itself what it is made of."""

    def told(self):
        """The asking as a tuple."""
        raise NotImplementedError("told by each sort")

    def inner_ones(self):
        """The list of the askings that it is made of."""
        raise NotImplementedError("told by each sort")

    def with_inner(self, some):
        """One with other askings, as many, in place of those that it is made of."""
        raise NotImplementedError("told by each sort")


class Word(Asking):
    """A plain word."""

    def __init__(self, word):
        check_words([word])
        self.word = word

    def told(self):
        return ("word", self.word)

    def inner_ones(self):
        return []

    def with_inner(self, some):
        return self


class Begin(Asking):
    """The words that begin with a plain word."""

    def __init__(self, start):
        check_words([start])
        self.start = start

    def told(self):
        return ("begin", self.start)

    def inner_ones(self):
        return []

    def with_inner(self, some):
        return self


class Row(Asking):
    """Two to six plain words, one behind another."""

    def __init__(self, words):
        check_number(len(words), 2, 6)
        check_words(words)
        self.row_words = tuple(words)

    def told(self):
        return ("row", self.row_words)

    def inner_ones(self):
        return []

    def with_inner(self, some):
        return self


class Near(Asking):
    """Two plain words, at most so far apart."""

    def __init__(self, far, one, other):
        check_number(far, 1, 20)
        check_words([one, other])
        self.far = far
        self.one = one
        self.other = other

    def told(self):
        return ("near", self.far, self.one, self.other)

    def inner_ones(self):
        return []

    def with_inner(self, some):
        return self


class In(Asking):
    """An asking, looked for in one part alone."""

    def __init__(self, part, inner):
        check_number(part, 0, 2)
        self.part = part
        self.inner = inner

    def told(self):
        return ("in", self.part, self.inner.told())

    def inner_ones(self):
        return [self.inner]

    def with_inner(self, some):
        return In(self.part, some[0])


class All(Asking):
    """Each of one asking or more."""

    def __init__(self, parts):
        check_some(parts)
        self.several = tuple(parts)

    def told(self):
        return ("all", told_ones(self.several))

    def inner_ones(self):
        return list(self.several)

    def with_inner(self, some):
        return All(some)


class Any(Asking):
    """One at least of one asking or more."""

    def __init__(self, parts):
        check_some(parts)
        self.several = tuple(parts)

    def told(self):
        return ("any", told_ones(self.several))

    def inner_ones(self):
        return list(self.several)

    def with_inner(self, some):
        return Any(some)


class But(Asking):
    """The first asking and not the second."""

    def __init__(self, one, other):
        self.one = one
        self.other = other

    def told(self):
        return ("but", self.one.told(), self.other.told())

    def inner_ones(self):
        return [self.one, self.other]

    def with_inner(self, some):
        return But(some[0], some[1])


class Also(Asking):
    """The first asking, and the second for its rank."""

    def __init__(self, one, other):
        self.one = one
        self.other = other

    def told(self):
        return ("also", self.one.told(), self.other.told())

    def inner_ones(self):
        return [self.one, self.other]

    def with_inner(self, some):
        return Also(some[0], some[1])


class By(Asking):
    """An asking that counts so many times."""

    def __init__(self, times, inner):
        check_number(times, 0, MOST_TIMES)
        self.times = times
        self.inner = inner

    def told(self):
        return ("by", self.times, self.inner.told())

    def inner_ones(self):
        return [self.inner]

    def with_inner(self, some):
        return By(self.times, some[0])


class Never(Asking):
    """What no text answers."""

    def told(self):
        return ("never",)

    def inner_ones(self):
        return []

    def with_inner(self, some):
        return self
