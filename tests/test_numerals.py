"""Numerals [13, 28]: whole numbers and fractions as they are written."""

import unittest

from shownranks.numerals import fraction_of, is_numeral, is_written_fraction, number_of, numeral_of, show_fraction
from helpers import Checks

NO_NUMERALS = [
    "", " ", "00", "01", "007", "+1", "-1", "-0", "1.", "1.0", "1e2", "1_0", " 1", "1 ", "1\n", "a", "1a", "0x1", "1,0", "1/2",
    "\u0663", "\u00b2", "\uff13", "1\u0660", "0" * 5000, "0" + "9" * 5000, "9" * 5000 + "x", "'", "\ud800",
]
NO_FRACTIONS = [text for text in NO_NUMERALS if text != "1/2"] + [
    "2/4", "6/8", "3/1", "1/1", "0/1", "0/2", "0/0", "1/0", "3/0", "03/4", "3/04", "-3/4", "3/-4", "+3/4", "3 /4", "3/ 4", "/",
    "3/", "/4", "3/4/5", "3//4", "3/4 ", " 3/4", "3:4", "3/a", "a/4", "0.75", "12/10", "100/10", "3\u20444", "1/3\n", "-0",
    "6" * 5000 + "/3", "4/2",
]


class Numerals(Checks):
    def test_what_is_one(self):
        for number in list(range(300)) + [10 ** 59, 10 ** 60 - 1, 10 ** 60, 10 ** 60 + 1, 10 ** 120, 10 ** 120 - 1, 7 ** 900]:
            self.truth(is_numeral(str(number)), True)
            self.same(number_of(str(number)), number)
            self.same(numeral_of(number), str(number))

    def test_what_is_none(self):
        for text in NO_NUMERALS:
            self.truth(is_numeral(text), False)

    def test_of_very_many_figures(self):
        for many in [59, 60, 61, 119, 120, 121, 4299, 4300, 4301, 9999]:
            self.truth(numeral_of(number_of("9" * many)) == "9" * many, True)
            self.truth(number_of("9" * many) == 10 ** many - 1, True)
            self.truth(numeral_of(10 ** many) == "1" + "0" * many, True)
            self.truth(number_of("1" + "0" * many) == 10 ** many, True)
            self.truth(is_numeral("1" + "0" * many), True)


class Fractions(Checks):
    def test_what_is_one(self):
        for text, worth in [
            ("3/4", (3, 4)), ("3", (3, 1)), ("0", (0, 1)), ("1", (1, 1)), ("1/2", (1, 2)), ("6/5", (6, 5)), ("100/7", (100, 7)),
            ("1/10", (1, 10)), ("12", (12, 1)), ("9" * 60 + "/" + "1" + "0" * 59, (10 ** 60 - 1, 10 ** 59)),
        ]:
            self.truth(is_written_fraction(text), True)
            self.same(fraction_of(text), worth)
            self.same(show_fraction(worth), text)

    def test_what_is_none(self):
        for text in NO_FRACTIONS:
            self.truth(is_written_fraction(text), False)

    def test_of_very_many_figures(self):
        text = "1" + "0" * 5000 + "/" + "9" * 4999
        self.truth(is_written_fraction(text), True)
        self.truth(show_fraction(fraction_of(text)) == text, True)
        self.truth(fraction_of(text) == (10 ** 5000, 10 ** 4999 - 1), True)


if __name__ == "__main__":
    unittest.main()
