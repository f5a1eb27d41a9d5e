"""Numerals: whole numbers and fractions as they are written, by figures."""

from shownranks.fractions import fraction
from shownranks.signs import is_figure

# Python itself refuses to read and to write numbers of very many figures, so this is done so many at a time.
FIGURES_AT_ONCE = 60
AT_ONCE = 10 ** 60


def is_numeral(text):
    """Whether a text is a whole number by figures, without noughts ahead but for 0 itself."""
    if text == "" or not all([is_figure(sign) for sign in text]):
        return False
    return text == "0" or text[0] != "0"


def number_of(numeral):
    """The whole number that a numeral writes."""
    first = len(numeral) % FIGURES_AT_ONCE
    number = int("0" + numeral[:first])
    for begin in range(first, len(numeral), FIGURES_AT_ONCE):
        number = number * AT_ONCE + int(numeral[begin:begin + FIGURES_AT_ONCE])
    return number


def numeral_of(number):
    """The numeral of a whole number from 0 on."""
    pieces = []
    while number >= AT_ONCE:
        number, piece = divmod(number, AT_ONCE)
        pieces.append(str(piece).zfill(FIGURES_AT_ONCE))
    pieces.append(str(number))
    return "".join(pieces[::-1])


def show_fraction(shown):
    """A fraction, not below 0, as it is written."""
    top, bottom = shown
    if bottom == 1:
        return numeral_of(top)
    return f"{numeral_of(top)}/{numeral_of(bottom)}"


def is_written_fraction(text):
    """Whether a text is a fraction in lowest terms, as it is written."""
    top, bar, bottom = text.partition("/")
    if bar == "":
        return is_numeral(text)
    if not is_numeral(top) or not is_numeral(bottom) or bottom == "0":
        return False
    return show_fraction(fraction(number_of(top), number_of(bottom))) == text


def fraction_of(written):
    """The fraction that is written so."""
    top, bar, bottom = written.partition("/")
    return (number_of(top), 1 if bar == "" else number_of(bottom))
