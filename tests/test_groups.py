"""Groups [27]: the words of the marks of texts that answer, with how many of these have them."""

import random
import unittest

from shownranks.askings import All, Also, Any, But, By, In, Never, Word
from shownranks.books import Book
from shownranks.groups import groups_of
from shownranks.houses import House
from shownranks.rulebooks import Rulebook
from helpers import Checks, all_told, chance_texts, make_of, many_askings, slow_groups, spoil_told_lists

RULES = Rulebook([("ing", "", 3), ("s", "", 2), ("ies", "y", 2)], ["the", "of"])
TEXTS = {
    "a": ("red", "", "travel, seas"),
    "b": ("red sea", "walking", "Sea the travel TRAVEL"),
    "c": ("", "red", "cities of the sea"),
    "d": ("blue", "sea", "travel ship ship ship"),
    "e": ("red", "", ""),
    "f": ("blue", "", "the of"),
}
RED, SEA, BLUE = Word("red"), Word("sea"), Word("blue")


class WrittenOut(Checks):
    def groups(self, asking, wanted):
        for book in [Book(RULES, TEXTS), make_of(RULES, TEXTS)]:
            self.same(groups_of(book, asking), wanted)

    def test_the_greater_many_first_then_by_word(self):
        # a, b, c and e answer.
        self.groups(RED, [("sea", 3), ("travel", 2), ("city", 1)])
        # a, b, c and d answer.
        self.groups(SEA, [("sea", 3), ("travel", 3), ("city", 1), ("ship", 1)])

    def test_each_text_once_however_often_it_has_the_word(self):
        self.groups(In(0, SEA), [("sea", 1), ("travel", 1)])
        self.groups(All([SEA, BLUE]), [("ship", 1), ("travel", 1)])

    def test_words_are_brought_and_silent_ones_left_out(self):
        self.groups(In(1, RED), [("city", 1), ("sea", 1)])
        self.groups(But(BLUE, SEA), [])

    def test_only_texts_that_answer(self):
        self.groups(But(RED, In(0, SEA)), [("sea", 2), ("city", 1), ("travel", 1)])
        self.groups(Also(BLUE, RED), [("ship", 1), ("travel", 1)])
        self.groups(By(0, BLUE), [("ship", 1), ("travel", 1)])
        self.groups(Any([BLUE, In(0, RED)]), [("travel", 3), ("sea", 2), ("ship", 1)])

    def test_only_the_marks(self):
        self.groups(Word("walk"), [("sea", 1), ("travel", 1)])

    def test_no_answering_text(self):
        for asking in [Never(), Word("nowhere"), Word("the"), In(0, In(1, RED)), All([RED, Never()])]:
            self.groups(asking, [])
        for book in [Book(RULES, {}), House(RULES).make(0)]:
            self.same(groups_of(book, RED), [])

    def test_answering_texts_without_marks(self):
        self.same(groups_of(Book(RULES, {"e": TEXTS["e"], "f": TEXTS["f"]}), Any([RED, BLUE])), [])

    def test_words_with_figures_are_sorted_as_texts(self):
        book = Book(RULES, {"a": ("x", "", "b10 b9 a 10 9"), "b": ("x", "", "b9")})
        self.same(groups_of(book, Word("x")), [("b9", 2), ("10", 1), ("9", 1), ("a", 1), ("b10", 1)])


class AsTheWordsSay(Checks):
    def test_many_askings_of_many_texts(self):
        chance = random.Random(31)
        many = 0
        for number, asking in enumerate(many_askings(["a", "b", "ab", "walk", "the"], 120)):
            texts = chance_texts(chance, [1, 2, 7, 40][number % 4])
            book, make = Book(RULES, texts), make_of(RULES, texts)
            wanted = slow_groups(book, asking.told())
            self.same(groups_of(book, asking), wanted)
            self.same(groups_of(make, asking), wanted)
            many += len(wanted)
        self.assertGreater(many, 100)


class Kept(Checks):
    def test_told_lists_and_what_was_handed_in(self):
        texts = dict(TEXTS)
        book = Book(RULES, texts)
        before = all_told(book)
        asking = Any([RED, BLUE])
        told, wanted = asking.told(), groups_of(book, asking)
        again = groups_of(book, asking)
        again.reverse()
        again.append(("more", 1))
        groups_of(book, asking).clear()
        texts.clear()
        spoil_told_lists(book)
        for _ in range(2):
            self.same(groups_of(book, asking), wanted)
        self.same(asking.told(), told)
        self.same(all_told(book), before)

    def test_an_earlier_make_as_before(self):
        house = House(RULES)
        house.put("a", TEXTS["a"])
        house.put("d", TEXTS["d"])
        house.put("a", ("", "", ""))
        self.same(groups_of(house.make(2), SEA), [("travel", 2), ("sea", 1), ("ship", 1)])
        self.same(groups_of(house.make(3), SEA), [("ship", 1), ("travel", 1)])


if __name__ == "__main__":
    unittest.main()
