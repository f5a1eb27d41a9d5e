"""Rows that a desk is told: their words, numbers, fractions and parts."""

from shownranks.errors import NoRow
from shownranks.numerals import fraction_of, is_numeral, is_written_fraction, number_of


def checked_words(words, many):
    """The words of a row, behind its first; refuse other than so many, or one without signs."""
    if len(words) != many + 1 or "" in words:
        raise NoRow("a row has just its words, with one blank between")
    return words[1:]


def words_of_row(row, many):
    """The so many words of a row behind its first."""
    return checked_words(row.split(" "), many)


def words_and_ask(row, many):
    """The so many words of a row behind its first, and as one more the rest behind a blank, perhaps without signs."""
    # Where the blank ahead of the asking is missing, its place is taken by a word, and one too few are left.
    pieces = row.split(" ", many + 1)
    return checked_words(pieces[:-1], many) + pieces[-1:]


def part_between_bars(piece):
    """A part, by what stands between two bars."""
    if len(piece) < 2 or piece[0] != " " or piece[-1] != " ":
        raise NoRow("there is a blank on either side of each bar")
    return piece[1:-1]


def name_and_parts(row):
    """The name and the tuple of parts that a row tells to put."""
    # With one bar more at the end, each part stands between two.
    pieces = f"{row} |".split("|")
    if len(pieces) != 5 or not pieces[0].endswith(" "):
        raise NoRow("a text is put as in: put a | head | body | marks")
    name = words_of_row(pieces[0][:-1], 1)[0]
    return (name, tuple([part_between_bars(piece) for piece in pieces[1:4]]))


def number_in_row(word):
    """The whole number that a word of a row writes."""
    if not is_numeral(word):
        raise NoRow("a number is written by figures, without noughts ahead")
    return number_of(word)


def fraction_in_row(word):
    """The fraction that a word of a row writes."""
    if not is_written_fraction(word):
        raise NoRow("a fraction is written in lowest terms, as 3/4 or as 3")
    return fraction_of(word)
