"""Runs and words of a text [6]."""

import unittest

from shownranks.rulebooks import Rulebook
from shownranks.words import runs_of, words_of
from helpers import Checks

SMALL = "abcdefghijklmnopqrstuvwxyz"
GREAT = SMALL.upper()
FIGURES = "0123456789"
# Every sign from the blank to the ~ but the percent sign.
SIGNS = [chr(number) for number in range(32, 127) if number != 37]
BETWEEN = [sign for sign in SIGNS if sign not in SMALL + GREAT + FIGURES]


class Runs(Checks):
    def test_written_out(self):
        for text, wanted in [
            ("", []),
            (" ", []),
            (" .,-_ ~!", []),
            ("a", [("a", 0, 1)]),
            ("A", [("a", 0, 1)]),
            ("7", [("7", 0, 1)]),
            ("red sea", [("red", 0, 3), ("sea", 4, 7)]),
            ("  Red--SEA!", [("red", 2, 5), ("sea", 7, 10)]),
            ("Red Sea", [("red", 0, 3), ("sea", 4, 7)]),
            ("a1B2 3c", [("a1b2", 0, 4), ("3c", 5, 7)]),
            ("it's 10:30", [("it", 0, 2), ("s", 3, 4), ("10", 5, 7), ("30", 8, 10)]),
            ("x_y", [("x", 0, 1), ("y", 2, 3)]),
            ("red red", [("red", 0, 3), ("red", 4, 7)]),
            (".a", [("a", 1, 2)]),
            ("a.", [("a", 0, 1)]),
        ]:
            self.same(runs_of(text), wanted)

    def test_all_letters_and_figures_belong_to_runs(self):
        self.same(runs_of(SMALL + GREAT + FIGURES), [(SMALL + SMALL + FIGURES, 0, 62)])
        for sign in SMALL + GREAT + FIGURES:
            self.same(runs_of(f".{sign}."), [(sign.lower(), 1, 2)])

    def test_no_other_sign_does(self):
        for sign in BETWEEN:
            self.same(runs_of(sign), [])
            self.same(runs_of(f"a{sign}B"), [("a", 0, 1), ("b", 2, 3)])
            self.same(runs_of(f"{sign}{sign}9{sign}"), [("9", 2, 3)])

    def test_texts_of_four_hundred_signs(self):
        self.same(runs_of("aB" * 200), [("ab" * 200, 0, 400)])
        self.same(runs_of("." * 400), [])
        self.same(runs_of("x " * 200), [("x", 2 * at, 2 * at + 1) for at in range(200)])
        self.same(runs_of(" X" * 200), [("x", 2 * at + 1, 2 * at + 2) for at in range(200)])

    def test_a_told_list_changed_afterwards_changes_nothing(self):
        runs_of("red sea").clear()
        self.same(runs_of("red sea"), [("red", 0, 3), ("sea", 4, 7)])


class Words(Checks):
    def setUp(self):
        self.book = Rulebook([("ing", "", 3), ("s", "", 2), ("ies", "y", 2)], ["the", "of", "2"])

    def test_written_out(self):
        for text, wanted in [
            ("", []),
            ("...", []),
            ("the", []),
            ("The OF 2", []),
            ("sea", [("sea", 0, 0, 3)]),
            ("the sea", [("sea", 1, 4, 7)]),
            ("sea of the cats", [("sea", 0, 0, 3), ("cat", 3, 11, 15)]),
            ("Cities, walking!", [("city", 0, 0, 6), ("walk", 1, 8, 15)]),
            ("-thes- THE 22 2", [("the", 0, 1, 5), ("22", 2, 11, 13)]),
            ("cats cats", [("cat", 0, 0, 4), ("cat", 1, 5, 9)]),
            ("is  as  was", [("is", 0, 0, 2), ("as", 1, 4, 6), ("wa", 2, 8, 11)]),
        ]:
            self.same(words_of(self.book, text), wanted)

    def test_silent_as_they_stand_and_not_as_they_are_brought(self):
        book = Rulebook([("s", "", 1)], ["cat", "dogs"])
        self.same(words_of(book, "cats cat dogs dog"), [("cat", 0, 0, 4), ("dog", 3, 14, 17)])

    def test_without_rules_the_words_are_the_runs(self):
        book = Rulebook([], [])
        self.same(words_of(book, "The Seas 2"), [("the", 0, 0, 3), ("seas", 1, 4, 8), ("2", 2, 9, 10)])

    def test_all_silent_but_the_last(self):
        self.same(words_of(self.book, "the " * 99 + "sea"), [("sea", 99, 396, 399)])

    def test_texts_of_four_hundred_signs(self):
        self.same(words_of(self.book, "the sEAs " * 44),
                  [("sea", 2 * at + 1, 9 * at + 4, 9 * at + 8) for at in range(44)])
        self.same(words_of(self.book, "A" * 397 + "ing"), [("a" * 397, 0, 0, 400)])

    def test_begin_and_end_cut_the_run_out_of_the_text_that_was_handed_in(self):
        text = "  The CATS; of 12 SINGING,walking.cities--x1Y2 "
        runs = runs_of(text)
        for word, place, begin, end in words_of(self.book, text):
            run = text[begin:end].lower()
            self.assertEqual(runs[place], (run, begin, end))
            self.assertEqual(self.book.brought(run), word)

    def test_a_told_list_changed_afterwards_changes_nothing(self):
        words_of(self.book, "red seas").append("more")
        for _ in range(2):
            self.same(words_of(self.book, "red seas"), [("red", 0, 0, 3), ("sea", 1, 4, 8)])


if __name__ == "__main__":
    unittest.main()
