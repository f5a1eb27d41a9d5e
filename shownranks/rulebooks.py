"""Rulebooks: which endings runs lose, and which words are silent."""

from shownranks.errors import NoRule
from shownranks.signs import are_small_letters, is_plain_word


def check_ending(ending, instead, least):
    """Refuse one row of endings that is not as it must be."""
    if not are_small_letters(ending, 1, 8):
        raise NoRule("an ending is made of one to eight small letters")
    if not are_small_letters(instead, 0, len(ending)):
        raise NoRule("what stands instead is made of small letters, no more than the ending has")
    if not 1 <= least <= 20:
        raise NoRule("an ending leaves at least 1 to 20 signs")


def check_silent_word(word):
    """Refuse a silent word that is not as it must be."""
    if not is_plain_word(word):
        raise NoRule("a silent word is made of one to twenty small letters and figures")


def check_no_twice(texts):
    """Refuse a list in which a text stands twice."""
    if len(set(texts)) != len(texts):
        raise NoRule("no ending and no silent word stands twice")


class Rulebook:
    """Endings, tuples (ending, instead, least), and silent words."""

    def __init__(self, endings, silent):
        for ending, instead, least in endings:
            check_ending(ending, instead, least)
        for word in silent:
            check_silent_word(word)
        check_no_twice([row[0] for row in endings])
        check_no_twice(silent)
        # The longest stand first, so the first one that fits is the one to take off.
        self.longest_first = sorted(endings, key=lambda row: -len(row[0]))
        self.silent_words = {word: True for word in silent}

    def brought(self, run):
        """The run with the longest ending that fits taken off, and its instead put there."""
        for ending, instead, least in self.longest_first:
            ahead = len(run) - len(ending)
            if ahead >= least and run.endswith(ending):
                return run[:ahead] + instead
        return run

    def is_silent(self, run):
        """Whether a run, as it stands, is a silent word."""
        return run in self.silent_words
