"""Pieces [26]: the best of all windows of at most so many signs."""

import random
import unittest

from shownranks.askings import All, Any, Begin, But, By, In, Near, Never, Row, Word
from shownranks.books import Book
from shownranks.errors import Lacking, NoMany
from shownranks.finds import finds_of
from shownranks.houses import House
from shownranks.pieces import piece_of
from shownranks.reading import read_asking
from shownranks.rulebooks import Rulebook
from helpers import (
    NO_MANY, NONE_OF_THE_NAMES, Checks, all_told, chance_texts, make_of, many_askings, slow_piece, spoil_told_lists,
)

PLAIN = Rulebook([], [])
RULES = Rulebook([("ing", "", 3), ("s", "", 2), ("ies", "y", 2)], ["the", "of"])
NO_SIGNS = [thing for thing in NO_MANY if thing not in (41, 42, 100)] + [401, 402, 500, 4000, 10 ** 4000]


class WrittenOut(Checks):
    def piece(self, parts, written, signs, wanted):
        for book in [Book(RULES, {"t": parts}), make_of(RULES, {"t": parts})]:
            told = piece_of(book, "t", read_asking(written), signs)
            self.same(told[:4] if told else told, wanted)
            if told:
                part, begin, end, text, finds = told
                self.same(text, parts[part][begin:end])
                held = [find for find in finds_of(book, "t", read_asking(written)) if find[0] == part]
                self.same(finds, [find for find in held if begin <= find[1] and find[2] <= end])
                self.assertTrue(1 <= len(text) <= signs and finds)

    def test_the_most_unlike_leaves(self):
        parts = ("red red red red", "", "red, sea")
        self.piece(parts, "any(red; sea)", 400, (2, 0, 8, "red, sea"))
        self.piece(parts, "any(red; sea)", 8, (2, 0, 8, "red, sea"))
        self.piece(parts, "any(red; sea)", 7, (0, 0, 7, "red red"))
        # red and r* are unlike though the same word is found.
        self.piece(("sea sea sea", "red", ""), "any(red; r*; sea)", 400, (1, 0, 3, "red"))
        self.piece(("sea blue sea blue", "red", ""), "any(red; r*; re*; sea; blue)", 400, (1, 0, 3, "red"))
        # Of a leaf that stands twice in the asking the finds are those of one.
        self.piece(("sea sea", "red", ""), "any(red; red; sea)", 400, (0, 0, 7, "sea sea"))

    def test_then_the_most_finds(self):
        self.piece(("red", "red red", "red red red"), "red", 400, (2, 0, 11, "red red red"))
        self.piece(("red", "red red", "red red red"), "red", 10, (1, 0, 7, "red red"))
        self.piece(("red x red", "red red", ""), "red", 7, (1, 0, 7, "red red"))
        # Three pairs that end alike are more than two that do not.
        self.piece(("a b c c c a b", "a    a    a    b", ""), "near(3 a b)", 400, (1, 0, 16, "a    a    a    b"))

    def test_then_the_fewest_signs(self):
        self.piece(("red sea  red", "red x red", "red  red"), "red", 400, (2, 0, 8, "red  red"))
        self.piece(("seas", "sea", "Sea"), "sea", 400, (1, 0, 3, "sea"))
        # Nothing is ahead of the first find, and nothing behind the last.
        self.piece(("blue red blue", "", ""), "red", 400, (0, 5, 8, "red"))

    def test_then_the_first_part(self):
        self.piece(("x red", "red", "red"), "red", 400, (0, 2, 5, "red"))
        self.piece(("", "x x x sea", "sea"), "sea", 400, (1, 6, 9, "sea"))

    def test_then_the_least_begin(self):
        self.piece(("x red, red", "", ""), "red", 3, (0, 2, 5, "red"))
        self.piece(("", "red red blue red red", ""), "red", 7, (1, 0, 7, "red red"))
        self.piece(("sea x red sea red", "", ""), "any(red; sea)", 7, (0, 6, 13, "red sea"))

    def test_finds_wholly_within(self):
        parts = ("red blue sea", "sea", "")
        self.piece(parts, "near(2 red sea)", 12, (0, 0, 12, "red blue sea"))
        self.piece(parts, "near(2 red sea)", 11, None)
        self.piece(parts, "any(near(2 red sea); sea)", 11, (0, 9, 12, "sea"))
        self.piece(parts, "any(near(2 red sea); sea)", 12, (0, 0, 12, "red blue sea"))
        self.piece(("walking", "", ""), "walk", 7, (0, 0, 7, "walking"))
        self.piece(("walking", "", ""), "walk", 6, None)

    def test_signs_stand_as_they_are(self):
        self.piece(("  The RED;; of - Sea!", "", ""), "all(red; sea)", 400, (0, 6, 20, "RED;; of - Sea"))
        self.piece(("", "x|[Red]|x (seas) ", ""), "any(red; sea)", 400, (1, 3, 15, "Red]|x (seas"))

    def test_silent_runs_are_windows_edges_too_but_no_finds(self):
        self.piece(("the of the", "", ""), "any(the; of)", 400, None)
        self.piece(("the red of the sea of", "", ""), "all(red; sea)", 400, (0, 4, 18, "red of the sea"))

    def test_one_sign_and_400(self):
        self.piece(("a b", "b", ""), "a", 1, (0, 0, 1, "a"))
        self.piece(("ab a", "", ""), "a*", 1, (0, 3, 4, "a"))
        self.piece(("ab", "", ""), "a*", 1, None)
        self.piece(("a" + " " * 398 + "b", "", ""), "all(a; b)", 400, (0, 0, 400, "a" + " " * 398 + "b"))
        self.piece(("a" + " " * 398 + "b", "", ""), "all(a; b)", 399, (0, 0, 1, "a"))
        self.piece(("b" + " " * 398 + "a", "", ""), "all(a; b)", 399, (0, 0, 1, "b"))
        self.piece(("a" * 400, "", ""), "a*", 400, (0, 0, 400, "a" * 400))
        self.piece(("a" * 400, "", ""), "a*", 399, None)

    def test_none(self):
        for written in ["-", "nowhere", "in(head in(body red))", "but(nowhere; red)", "in(marks red)", "row(sea red)"]:
            for signs in [1, 3, 400]:
                self.piece(("red sea", "red", ""), written, signs, None)
        self.piece(("", "", ""), "red", 400, None)
        self.piece((" - ", ".,", "!"), "red", 400, None)

    def test_whether_the_text_answers_or_not(self):
        self.piece(("red", "", ""), "all(red; nowhere)", 400, (0, 0, 3, "red"))
        self.piece(("red sea", "", ""), "but(red; sea)", 400, (0, 0, 3, "red"))

    def test_finds_told(self):
        book = Book(PLAIN, {"t": ("x red sea red x", "", "red")})
        told = piece_of(book, "t", read_asking("any(red; sea; row(sea red))"), 400)
        self.same(told, (0, 2, 13, "red sea red", [
            (0, 2, 5, "red"), (0, 6, 9, "sea"), (0, 6, 13, "row(sea red)"), (0, 10, 13, "red"),
        ]))


class AsTheWordsSay(Checks):
    def test_many_askings_of_many_texts(self):
        chance = random.Random(30)
        pieces, nothing = 0, 0
        for number, asking in enumerate(many_askings(["a", "b", "ab", "walk", "the"], 300)):
            texts = chance_texts(chance, 2)
            book, make = Book(RULES, texts), make_of(RULES, texts)
            for name in texts:
                for signs in [1, 400, chance.randrange(1, 12), chance.randrange(1, 60)]:
                    wanted = slow_piece(book, name, asking.told(), signs)
                    self.same(piece_of(book, name, asking, signs), wanted)
                    self.same(piece_of(make, name, asking, signs), wanted)
                    pieces += wanted is not None
                    nothing += wanted is None
        self.assertGreater(pieces, 400)
        self.assertGreater(nothing, 400)

    def test_texts_of_very_many_runs_and_finds(self):
        book = Book(PLAIN, {"t": ("a b " * 100, "b a " * 100, "a a " * 100)})
        asking = Any([Near(far, one, other) for far in range(1, 20) for one, other in [("a", "a"), ("a", "b")]])
        told = piece_of(book, "t", asking, 400)
        self.same(told[:3], (0, 0, 399))
        self.same(told[4], [find for find in finds_of(book, "t", asking) if find[0] == 0])
        small = Book(PLAIN, {"t": ("a b " * 9, "b a " * 9, "a a " * 9)})
        for signs in [1, 3, 5, 20, 41, 400]:
            self.same(piece_of(small, "t", asking, signs), slow_piece(small, "t", asking.told(), signs))


class Refused(Checks):
    TEXTS = {"sea": ("red sea", "sea", "sea"), "a": ("", "", "")}

    def books(self):
        return [Book(RULES, self.TEXTS), make_of(RULES, self.TEXTS), Book(RULES, {}), House(RULES).make(0)]

    def test_any_other_number_and_anything_else(self):
        for book in self.books()[:2]:
            for thing in NO_SIGNS:
                for asking in [Word("sea"), Never(), Word("nowhere"), But(Never(), Word("sea"))]:
                    for name in ["sea", "a"]:
                        self.refused(NoMany, piece_of, book, name, asking, thing)

    def test_what_is_none_of_the_names_also_where_the_number_is_none(self):
        for book in self.books():
            for thing in NONE_OF_THE_NAMES:
                for asking in [Word("sea"), Never(), All([Row(["a", "b"]), Begin("s")]), By(0, In(1, Near(1, "a", "b")))]:
                    for signs in [1, 400, 0, 401, None, "5", True, [], -1]:
                        self.refused(Lacking, piece_of, book, thing, asking, signs)


class Kept(Checks):
    def test_told_lists_and_what_was_handed_in(self):
        texts = {"t": ("The Red  Seas", "red sea, of red-walking cities", "sea")}
        book = Book(RULES, texts)
        before = all_told(book)
        asking = read_asking("any(red; row(red sea); but(sea; walk))")
        told, wanted = asking.told(), piece_of(book, "t", asking, 20)
        again = piece_of(book, "t", asking, 20)
        again[4].reverse()
        again[4].append((0, 0, 0, "more"))
        piece_of(book, "t", asking, 20)[4].clear()
        texts.clear()
        spoil_told_lists(book)
        for _ in range(2):
            self.same(piece_of(book, "t", asking, 20), wanted)
        self.same(asking.told(), told)
        self.same(all_told(book), before)

    def test_an_earlier_make_as_before(self):
        house = House(RULES)
        house.put("t", ("x red sea", "", ""))
        house.put("t", ("sea", "", ""))
        self.same(piece_of(house.make(1), "t", Word("sea"), 9), (0, 6, 9, "sea", [(0, 6, 9, "sea")]))
        self.same(piece_of(house.make(2), "t", Word("sea"), 9), (0, 0, 3, "sea", [(0, 0, 3, "sea")]))


if __name__ == "__main__":
    unittest.main()
