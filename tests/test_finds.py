"""Finds [25]: where in a text the leaves of an asking stand."""

import random
import unittest

from shownranks.answering import does_answer
from shownranks.askings import All, Also, Any, Begin, But, By, In, Near, Never, Row, Word
from shownranks.books import Book
from shownranks.errors import Lacking
from shownranks.finds import finds_of
from shownranks.houses import House
from shownranks.reading import read_asking
from shownranks.rulebooks import Rulebook
from helpers import (
    NONE_OF_THE_NAMES, Checks, all_told, chance_texts, each_sort_ten_deep, make_of, many_askings, slow_finds, spoil_told_lists,
)

PLAIN = Rulebook([], [])
RULES = Rulebook([("ing", "", 3), ("s", "", 2), ("ies", "y", 2)], ["the", "of"])
#                 0         1         2
#                 0123456789012345678901234567
TEXTS = {"t": ("The Red  Seas", "red sea, of red-walking cities", "sea"), "u": ("", "blue", "")}
RED_HEAD, SEA_HEAD = (0, 4, 7), (0, 9, 13)
RED, SEA, RED_AGAIN, WALK, CITY = (1, 0, 3), (1, 4, 7), (1, 12, 15), (1, 16, 23), (1, 24, 30)
SEA_MARKS = (2, 0, 3)

# An asking as it is written, and its finds in "t" without the leaf, which is the whole asking unless it is told.
OF_LEAVES = [
    ("red", [RED_HEAD, RED, RED_AGAIN]), ("sea", [SEA_HEAD, SEA, SEA_MARKS]), ("walk", [WALK]), ("city", [CITY]),
    ("the", []), ("of", []), ("seas", []), ("cities", []), ("nowhere", []), ("blue", []),
    ("s*", [SEA_HEAD, SEA, SEA_MARKS]), ("c*", [CITY]), ("red*", [RED_HEAD, RED, RED_AGAIN]), ("t*", []), ("seas*", []),
    ("row(red sea)", [(0, 4, 13), (1, 0, 7)]), ("row(red walk city)", [(1, 12, 30)]), ("row(sea red)", []),
    ("row(red walk)", [(1, 12, 23)]), ("row(sea red walk)", []), ("row(red red)", []),
    ("near(1 red sea)", [(0, 4, 13), (1, 0, 7)]), ("near(1 sea red)", [(0, 4, 13), (1, 0, 7)]),
    ("near(2 red sea)", [(0, 4, 13), (1, 0, 7), (1, 4, 15)]), ("near(3 red red)", [(1, 0, 15)]), ("near(2 red red)", []),
    ("near(20 red red)", [(1, 0, 15)]), ("near(20 walk sea)", [(1, 4, 23)]), ("near(2 sea walk)", []),
    ("near(3 sea walk)", [(1, 4, 23)]), ("near(20 sea sea)", []), ("near(20 blue red)", []),
]


def with_leaf(spans, leaf):
    return [(part, begin, end, leaf) for part, begin, end in spans]


class WrittenOut(Checks):
    def finds(self, written, wanted, name="t"):
        for book in [Book(RULES, TEXTS), make_of(RULES, TEXTS)]:
            self.same(finds_of(book, name, read_asking(written)), wanted)

    def test_each_sort_of_leaf(self):
        for written, spans in OF_LEAVES:
            self.finds(written, with_leaf(spans, written))
            if written not in ("blue", "the"):
                self.finds(written, [], "u")
        self.finds("blue", [(1, 0, 4, "blue")], "u")

    def test_in_each_part_in_which_it_is_looked_for(self):
        for written, spans in OF_LEAVES:
            for part, told in enumerate(["head", "body", "marks"]):
                wanted = with_leaf([span for span in spans if span[0] == part], written)
                self.finds(f"in({told} {written})", wanted)
                self.finds(f"in({told} in({told} {written}))", wanted)
                self.finds(f"in({told} by(3 all({written}; -)))", wanted)
                other = ["body", "marks", "head"][part]
                self.finds(f"in({told} in({other} {written}))", [])

    def test_within_each_sort_whether_the_text_answers_or_not(self):
        sea = with_leaf([SEA_HEAD, SEA, SEA_MARKS], "sea")
        for written in [
            "all(sea)", "all(sea; nowhere)", "all(sea; -)", "any(sea; nowhere)", "any(-; sea)", "also(sea; nowhere)",
            "also(nowhere; sea)", "also(-; sea)", "by(0 sea)", "by(999 sea)", "but(sea; nowhere)", "but(sea; sea)",
            "but(sea; red)", "all(sea; sea)", "any(sea; by(2 sea); all(sea; -))", "all(sea; in(head sea))",
        ]:
            self.finds(written, sea)
        self.finds("-", [])
        self.finds("all(-; nowhere)", [])
        self.assertFalse(does_answer(Book(RULES, TEXTS), "t", read_asking("all(sea; -)")))

    def test_none_of_what_is_within_the_second_of_a_but(self):
        red = with_leaf([RED_HEAD, RED, RED_AGAIN], "red")
        for written in [
            "but(red; sea)", "but(red; all(sea; walk))", "but(red; but(sea; walk))", "but(red; but(nowhere; sea))",
            "but(but(red; walk); sea)", "but(red; by(2 in(body sea)))", "but(red; also(sea; city))", "all(red; but(red; sea))",
            "but(red; red)", "any(but(red; sea*); but(red; row(red sea)))",
        ]:
            self.finds(written, red)
        # A leaf that stands there and elsewhere, too, is found elsewhere.
        sea = with_leaf([SEA_HEAD, SEA, SEA_MARKS], "sea")
        self.finds("all(sea; but(red; sea))", sorted(red + sea))
        self.finds("but(sea; in(head red))", sea)
        self.finds("but(nowhere; sea)", [])

    def test_sorted_and_each_once(self):
        # Of one and the same signs, by the leaf as written: "*" is ahead of letters, but behind nothing.
        self.finds("in(body any(red*; re*; red; row(red sea); near(1 sea red); near(1 red sea); red))", sorted(
            with_leaf([RED, RED_AGAIN], "red") + with_leaf([RED, RED_AGAIN], "re*") + with_leaf([RED, RED_AGAIN], "red*")
            + with_leaf([(1, 0, 7)], "row(red sea)") + with_leaf([(1, 0, 7)], "near(1 sea red)")
            + with_leaf([(1, 0, 7)], "near(1 red sea)")
        ))
        self.finds("in(marks all(sea; sea*; s*; se*))", [
            (2, 0, 3, "s*"), (2, 0, 3, "se*"), (2, 0, 3, "sea"), (2, 0, 3, "sea*"),
        ])
        self.finds("any(in(head sea); in(marks sea); sea)", with_leaf([SEA_HEAD, SEA, SEA_MARKS], "sea"))

    def test_the_leaf_is_written_as_it_was_handed_in(self):
        # It is not brought here: "seas" is no word of the text.
        self.finds("seas", [])
        self.finds("row(red seas)", [])
        self.finds("near(5 the red)", [])

    def test_a_near_of_one_word_twice(self):
        book = Book(PLAIN, {"t": ("a a b a", "", "")})
        near = [(0, 0, 3, "near(1 a a)")]
        self.same(finds_of(book, "t", Near(1, "a", "a")), near)
        self.same(finds_of(book, "t", Near(2, "a", "a")), with_leaf([(0, 0, 3), (0, 2, 7)], "near(2 a a)"))
        self.same(finds_of(book, "t", Near(3, "a", "a")), with_leaf([(0, 0, 3), (0, 0, 7), (0, 2, 7)], "near(3 a a)"))
        self.same(finds_of(book, "t", Near(3, "b", "b")), [])
        self.same(finds_of(book, "t", Near(2, "b", "a")), with_leaf([(0, 0, 5), (0, 2, 5), (0, 4, 7)], "near(2 b a)"))

    def test_rows_that_overlap(self):
        book = Book(PLAIN, {"t": ("a a a a", "", "")})
        self.same(finds_of(book, "t", Row(["a", "a"])), with_leaf([(0, 0, 3), (0, 2, 5), (0, 4, 7)], "row(a a)"))
        self.same(finds_of(book, "t", Row(["a", "a", "a"])), with_leaf([(0, 0, 5), (0, 2, 7)], "row(a a a)"))

    def test_silent_words_keep_their_places(self):
        book = Book(RULES, {"t": ("red the sea", "red the of sea", "")})
        self.same(finds_of(book, "t", Row(["red", "sea"])), [])
        self.same(finds_of(book, "t", Near(2, "sea", "red")), [(0, 0, 11, "near(2 sea red)")])
        self.same(finds_of(book, "t", Near(3, "sea", "red")), with_leaf([(0, 0, 11), (1, 0, 14)], "near(3 sea red)"))


class AsTheWordsSay(Checks):
    def test_many_askings_of_many_texts(self):
        chance = random.Random(29)
        many = 0
        for number, asking in enumerate(many_askings(["a", "b", "ab", "walk", "the"], 240) + each_sort_ten_deep()):
            texts = chance_texts(chance, [1, 2, 7][number % 3])
            book, make = Book(RULES, texts), make_of(RULES, texts)
            for name in texts:
                wanted = sorted(slow_finds(book, name, asking.told()))
                self.same(finds_of(book, name, asking), wanted)
                self.same(finds_of(make, name, asking), wanted)
                many += len(wanted)
        self.assertGreater(many, 3000)

    def test_parts_of_400_signs(self):
        book = Book(PLAIN, {"t": ("a " * 200, "a b " * 100, "ab" * 200)})
        for asking in [Near(20, "a", "a"), Near(20, "a", "b"), Any([Row(["a", "b"] * 3), Begin("a")]), Begin("ab")]:
            self.same(finds_of(book, "t", asking), sorted(slow_finds(book, "t", asking.told())))


class Refused(Checks):
    def test_what_is_none_of_the_names(self):
        texts = {"sea": ("red sea", "sea", "sea"), "a": ("", "", "")}
        askings = [Word("sea"), Begin("s"), Row(["red", "sea"]), Near(1, "a", "b"), In(0, In(1, Word("sea"))), All([Never()]),
                   Any([Never()]), But(Never(), Word("sea")), Also(Never(), Never()), By(0, Never()), Never()]
        for book in [Book(RULES, texts), make_of(RULES, texts), Book(RULES, {}), House(RULES).make(0)]:
            for thing in NONE_OF_THE_NAMES:
                for asking in askings:
                    self.refused(Lacking, finds_of, book, thing, asking)


class Kept(Checks):
    def test_told_lists_and_what_was_handed_in(self):
        texts = dict(TEXTS)
        book = Book(RULES, texts)
        before = all_told(book)
        asking = read_asking("any(red; row(red sea); but(sea; walk))")
        told, wanted = asking.told(), finds_of(book, "t", asking)
        again = finds_of(book, "t", asking)
        again.reverse()
        again.append((0, 0, 0, "more"))
        finds_of(book, "t", asking).clear()
        texts.clear()
        spoil_told_lists(book)
        for _ in range(2):
            self.same(finds_of(book, "t", asking), wanted)
        self.same(asking.told(), told)
        self.same(all_told(book), before)

    def test_an_earlier_make_as_before(self):
        house = House(RULES)
        house.put("t", TEXTS["t"])
        wanted = finds_of(house.make(1), "t", Word("sea"))
        house.put("t", ("sea sea", "", ""))
        house.take("t")
        self.same(finds_of(house.make(1), "t", Word("sea")), wanted)
        self.same(finds_of(house.make(2), "t", Word("sea")), [(0, 0, 3, "sea"), (0, 4, 7, "sea")])
        self.refused(Lacking, finds_of, house.make(3), "t", Word("sea"))


if __name__ == "__main__":
    unittest.main()
