"""Bringing: an asking with its words as a rulebook makes them of runs."""

from shownranks.askings import Near, Never, Row, Word


def run_words(asking):
    """The words of an asking that are brought as runs are: those of a Word, Row or Near, else none."""
    if isinstance(asking, Word):
        return [asking.word]
    if isinstance(asking, Row):
        return list(asking.row_words)
    if isinstance(asking, Near):
        return [asking.one, asking.other]
    return []


def with_run_words(asking, words):
    """A Word, Row or Near with other words, as many, in their place."""
    if isinstance(asking, Word):
        return Word(words[0])
    if isinstance(asking, Row):
        return Row(words)
    return Near(asking.far, words[0], words[1])


def brought_asking(rulebook, asking):
    """The asking, brought by a rulebook."""
    words = run_words(asking)
    if any([rulebook.is_silent(word) for word in words]):
        return Never()
    if len(words) > 0:
        return with_run_words(asking, [rulebook.brought(word) for word in words])
    return asking.with_inner([brought_asking(rulebook, inner) for inner in asking.inner_ones()])
