"""Readings [24]: the pages of a make's list, none missing, none twice."""

import random
import unittest

from shownranks.askings import All, Also, Any, Begin, But, By, In, Never, Word
from shownranks.books import Book
from shownranks.errors import Lacking, NoMany, Over
from shownranks.houses import House
from shownranks.lists import list_of
from shownranks.readings import Reading
from shownranks.rulebooks import Rulebook
from shownranks.weighings import Weighing
from helpers import NO_MANY, NONE_OF_THE_NAMES, Checks, all_told, chance_texts, make_of, many_askings, spoil_told_lists

PLAIN = Rulebook([], [])
RULES = Rulebook([("ing", "", 3), ("s", "", 2), ("ies", "y", 2)], ["the", "of"])
WEIGHING = Weighing((3, 1, 2), (6, 5), (3, 4))
# By this one the rank of a leaf is (N + 1) / (n + 1) times 2t / (t + 1).
SIMPLE = Weighing((3, 1, 2), (1, 1), (0, 1))
TEXTS = {
    "a": ("", "x", ""), "b": ("x", "", ""), "c": ("", "x", ""), "d": ("", "", "z"), "e": ("", "", "x"), "f": ("x", "", "y"),
}
X = Word("x")
X_LIST = [("b", (7, 4)), ("f", (7, 4)), ("e", (14, 9)), ("a", (7, 6)), ("c", (7, 6))]
FORTY = [one + other for one in "abcd" for other in "abcdefghij"]


def make_of_texts(texts):
    house = House(PLAIN)
    for name in texts:
        house.put(name, texts[name])
    return house.make(house.newest())


def pages_of(reading):
    """All further pages, each emptied as soon as it was looked at."""
    pages = []
    while True:
        try:
            page = reading.page()
        except Over:
            return pages
        pages.append(list(page))
        page.clear()


class Pages(Checks):
    def test_written_out(self):
        make = make_of_texts(TEXTS)
        for many, wanted in [
            (1, [[row] for row in X_LIST]), (2, [X_LIST[:2], X_LIST[2:4], X_LIST[4:]]), (3, [X_LIST[:3], X_LIST[3:]]),
            (4, [X_LIST[:4], X_LIST[4:]]), (5, [X_LIST]), (6, [X_LIST]), (40, [X_LIST]),
        ]:
            reading = Reading(make, SIMPLE, X, many)
            left = 5
            for page in wanted:
                self.same(reading.left(), left)
                self.same(reading.page(), page)
                left -= len(page)
            for _ in range(3):
                self.same(reading.left(), 0)
                self.refused(Over, reading.page)

    def test_the_methods_stand_in_the_class(self):
        self.listed_methods(Reading, ["page", "left", "go_on"])

    def test_an_empty_list_is_over_at_once(self):
        for make in [make_of_texts(TEXTS), House(PLAIN).make(0)]:
            for asking in [Never(), Word("nowhere"), All([X, Never()])]:
                for many in [1, 40]:
                    reading = Reading(make, SIMPLE, asking, many)
                    for _ in range(3):
                        self.same(reading.left(), 0)
                        self.refused(Over, reading.page)

    def test_each_number_from_one_to_forty(self):
        make = make_of_texts({name: ("x " * (1 + at % 7), "y " * (at % 5), "") for at, name in enumerate(FORTY)})
        listed = list_of(make, WEIGHING, X)
        self.assertEqual(len(listed), 40)
        for many in range(1, 41):
            pages = pages_of(Reading(make, WEIGHING, X, many))
            self.same(sum(pages, []), listed)
            self.assertEqual({len(page) for page in pages[:-1]} | {many}, {many})
            self.assertTrue(1 <= len(pages[-1]) <= many)

    def test_many_askings(self):
        chance = random.Random(28)
        pages = 0
        for number, asking in enumerate(many_askings(["a", "b", "ab", "walk"], 60)):
            texts = chance_texts(chance, [1, 7, 12, 40][number % 4])
            make, many = make_of(RULES, texts), chance.randrange(1, 9)
            told = pages_of(Reading(make, WEIGHING, asking, many))
            self.same(sum(told, []), list_of(Book(RULES, texts), WEIGHING, asking))
            pages += len(told)
        self.assertGreater(pages, 50)


class Meanwhile(Checks):
    def test_whatever_the_house_does_between_the_pages(self):
        for many in [1, 2, 3, 40]:
            house = House(PLAIN)
            for name in TEXTS:
                house.put(name, TEXTS[name])
            make = house.make(6)
            reading = Reading(make, SIMPLE, X, many)
            told = []
            for turn in range(10):
                house.put("g" * (1 + turn % 8), ("x x x x", "x", "x"))
                if turn == 1:
                    house.take("b")
                    house.take("c")
                house.put("a", ("", "", f"x {turn}"))
                if reading.left() > 0:
                    page = reading.page()
                    told += page
                    page.clear()
                spoil_told_lists(make)
                list_of(make, SIMPLE, X).clear()
            self.same(told, X_LIST)
            self.refused(Over, reading.page)
            self.same(pages_of(Reading(house.make(6), SIMPLE, X, many)), pages_of(Reading(make, SIMPLE, X, many)))
            self.assertNotEqual(list_of(house.make(house.newest()), SIMPLE, X), X_LIST)

    def test_two_readings_of_one_make_by_turns(self):
        make = make_of_texts(TEXTS)
        one, other = Reading(make, SIMPLE, X, 2), Reading(make, SIMPLE, X, 3)
        self.same(one.page(), X_LIST[:2])
        self.same(other.page(), X_LIST[:3])
        self.same([one.left(), other.left()], [3, 2])
        one.go_on("a")
        self.same([one.left(), other.left()], [1, 2])
        self.same(other.page(), X_LIST[3:])
        self.refused(Over, other.page)
        self.same(one.page(), X_LIST[4:])
        other.go_on("b")
        self.refused(Over, one.page)
        self.same(other.page(), X_LIST[1:4])

    def test_of_one_make_by_other_weighings_and_askings(self):
        make = make_of_texts(TEXTS)
        one = Reading(make, Weighing((0, 5, 0), (1, 1), (0, 1)), X, 40)
        other = Reading(make, SIMPLE, But(X, Word("y")), 40)
        self.same([name for name, _ in one.page()], ["a", "c", "b", "e", "f"])
        self.same([name for name, _ in other.page()], ["b", "e", "a", "c"])


class GoingOn(Checks):
    def test_behind_each_name_from_wherever_the_reading_stands(self):
        make = make_of_texts(TEXTS)
        for many in [1, 2, 40]:
            for pages_first in range(6):
                for at, (name, _) in enumerate(X_LIST):
                    reading = Reading(make, SIMPLE, X, many)
                    for _ in range(pages_first):
                        if reading.left() > 0:
                            reading.page()
                    for _ in range(2):
                        self.assertIsNone(reading.go_on(name))
                        self.same(reading.left(), 4 - at)
                    self.same(sum(pages_of(reading), []), X_LIST[at + 1:])
                    self.refused(Over, reading.page)

    def test_what_is_none_of_the_lists_names_and_nothing_changes_then(self):
        # d is a name of the make, but not of the list.
        things = NONE_OF_THE_NAMES + ["d", "", "B", "bb", ("b", (7, 4)), X_LIST, ["b"], b"b", 0, 1, -1]
        make = make_of_texts(TEXTS)
        reading = Reading(make, SIMPLE, X, 2)
        for start in (0, 2, 4):
            for thing in things:
                self.refused(Lacking, reading.go_on, thing)
                self.same(reading.left(), 5 - start)
            self.same(reading.page(), X_LIST[start:start + 2])
        for thing in things:
            self.refused(Lacking, reading.go_on, thing)
        self.refused(Over, reading.page)
        empty = Reading(make, SIMPLE, Never(), 2)
        for thing in things + ["a"]:
            self.refused(Lacking, empty.go_on, thing)


class Refused(Checks):
    def test_any_other_number_and_anything_else(self):
        for make in [make_of_texts(TEXTS), House(PLAIN).make(0)]:
            for asking in [X, Never()]:
                for thing in NO_MANY:
                    self.refused(NoMany, Reading, make, SIMPLE, asking, thing)


class Kept(Checks):
    def test_what_is_handed_in_stays(self):
        make = make_of_texts(TEXTS)
        before = all_told(make)
        asking = Also(Any([X, In(2, Begin("y"))]), By(2, Word("y")))
        told, wanted = asking.told(), list_of(make, SIMPLE, asking)
        for _ in range(2):
            reading = Reading(make, SIMPLE, asking, 3)
            asking.inner_ones().clear()
            self.same(sum(pages_of(reading), []), wanted)
            reading.go_on(wanted[0][0])
            self.same(reading.page(), wanted[1:4])
        self.same(asking.told(), told)
        self.same(all_told(make), before)


if __name__ == "__main__":
    unittest.main()
