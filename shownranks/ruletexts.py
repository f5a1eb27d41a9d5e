"""Rulebooks as they are written: one text of endings, and one of silent words."""

from shownranks.errors import NoRule
from shownranks.numerals import is_numeral, number_of
from shownranks.rulebooks import Rulebook


def pieces_of(text):
    """What stands in a text with a blank between; nothing in one without signs."""
    return [] if text == "" else text.split(" ")


def read_ending(written):
    """The tuple (ending, instead, least) that is written so."""
    ending, arrow, behind = written.partition("->")
    instead, colon, least = behind.partition(":")
    if arrow == "" or colon == "" or not is_numeral(least):
        raise NoRule("an ending is written as in ies->y:2")
    return (ending, instead, number_of(least))


def read_rulebook(endings, silent):
    """The rulebook of two texts."""
    return Rulebook([read_ending(written) for written in pieces_of(endings)], pieces_of(silent))
