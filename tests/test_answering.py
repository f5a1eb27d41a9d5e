"""Answering [17]: which texts answer an asking of each sort."""

import random
import unittest

from shownranks.answering import answers_of, does_answer
from shownranks.askings import All, Also, Any, Begin, But, By, In, Near, Never, Row, Word
from shownranks.books import Book
from shownranks.errors import Lacking
from shownranks.houses import House
from shownranks.rulebooks import Rulebook
from helpers import (
    NONE_OF_THE_NAMES, Checks, Slow, all_told, chance_texts, each_sort_ten_deep, make_of, many_askings, spoil_told_lists,
)

RULES = Rulebook([("ing", "", 3), ("s", "", 2), ("ies", "y", 2)], ["the", "of"])
TEXTS = {
    "e": ("", "", ""),
    "d": ("blue", "blue", "blue seas"),
    "c": ("sea", "the red sea", ""),
    "b": ("", "red the sea", "travel"),
    "a": ("Red Sea", "seaside", "travel"),
}
RED, SEA, BLUE, NONE = Word("red"), Word("sea"), Word("blue"), Word("nowhere")

# Each asking with the names of the texts that answer it.
ANSWERS = [
    (RED, "abc"), (SEA, "abcd"), (BLUE, "d"), (NONE, ""), (Word("the"), ""), (Word("seas"), ""),
    (Begin("sea"), "abcd"), (Begin("seas"), "a"), (Begin("t"), "ab"), (Begin("x"), ""), (Begin("b"), "d"),
    (Row(["red", "sea"]), "ac"), (Row(["sea", "red"]), ""), (Row(["blue", "sea"]), "d"), (Row(["blue", "blue"]), ""),
    (Near(1, "red", "sea"), "ac"), (Near(2, "red", "sea"), "abc"), (Near(2, "sea", "red"), "abc"), (Near(20, "sea", "sea"), ""),
    (Near(20, "blue", "blue"), ""),
    (In(0, SEA), "ac"), (In(1, SEA), "bc"), (In(2, SEA), "d"), (In(0, RED), "a"), (In(2, RED), ""), (In(1, Begin("sea")), "abc"),
    (In(0, Row(["red", "sea"])), "a"), (In(1, Near(2, "sea", "red")), "bc"), (In(2, Word("travel")), "ab"),
    (In(0, In(0, SEA)), "ac"), (In(1, In(1, In(1, SEA))), "bc"), (In(0, In(1, SEA)), ""), (In(2, In(0, SEA)), ""),
    (In(1, In(2, In(1, SEA))), ""), (In(0, Any([In(1, SEA), In(0, RED)])), "a"), (In(0, But(SEA, In(1, SEA))), "ac"),
    (In(0, Never()), ""),
    (All([RED]), "abc"), (All([RED, SEA]), "abc"), (All([SEA, BLUE]), "d"), (All([RED, BLUE]), ""), (All([SEA, Never()]), ""),
    (All([RED, SEA, Word("travel")]), "ab"), (All([In(0, SEA), In(1, SEA)]), "c"), (All([SEA, SEA]), "abcd"),
    (Any([BLUE]), "d"), (Any([BLUE, Word("travel")]), "abd"), (Any([NONE, Never()]), ""), (Any([Never(), RED, BLUE]), "abcd"),
    (But(SEA, RED), "d"), (But(SEA, BLUE), "abc"), (But(SEA, SEA), ""), (But(SEA, Never()), "abcd"), (But(Never(), SEA), ""),
    (But(SEA, NONE), "abcd"), (But(SEA, But(SEA, RED)), "abc"), (But(SEA, In(0, SEA)), "bd"), (In(1, But(SEA, RED)), ""),
    (Also(RED, BLUE), "abc"), (Also(BLUE, RED), "d"), (Also(RED, Never()), "abc"), (Also(Never(), RED), ""), (Also(RED, RED), "abc"),
    (By(0, RED), "abc"), (By(1, RED), "abc"), (By(999, BLUE), "d"), (By(0, Never()), ""), (By(3, NONE), ""),
    (Never(), ""), (Any([Never(), Never()]), ""), (All([Never()]), ""), (But(Never(), Never()), ""),
    (All([Any([RED, BLUE]), But(Begin("s"), In(0, Word("blue"))), Also(SEA, NONE), By(0, In(1, SEA))]), "bc"),
]


class WrittenOut(Checks):
    def test_each_sort(self):
        for book in [Book(RULES, TEXTS), make_of(RULES, TEXTS)]:
            for asking, names in ANSWERS:
                self.same(answers_of(book, asking), list(names))
                for name in TEXTS:
                    self.truth(does_answer(book, name, asking), name in names)

    def test_answers_within_each_sort(self):
        book = Book(RULES, TEXTS)
        for asking, names in ANSWERS:
            others = [name for name in "abcde" if name not in names]
            for wrapped, wanted in [
                (By(7, asking), list(names)), (All([asking]), list(names)), (Any([asking]), list(names)),
                (Also(asking, SEA), list(names)), (But(asking, Never()), list(names)), (Also(SEA, asking), list("abcd")),
                (But(SEA, asking), [name for name in others if name != "e"]), (But(asking, asking), []),
            ]:
                self.same(answers_of(book, wrapped), wanted)

    def test_a_book_without_texts(self):
        for book in [Book(RULES, {}), House(RULES).make(0)]:
            for asking, _ in ANSWERS:
                self.same(answers_of(book, asking), [])

    def test_a_book_of_one_text(self):
        book = Book(RULES, {"a": ("x y", "", "")})
        self.same(answers_of(book, All([Word("x"), Row(["x", "y"])])), ["a"])
        self.same(answers_of(book, In(1, Word("x"))), [])


class AsTheWordsSay(Checks):
    def test_ten_within_one_another(self):
        texts = {"p": ("a x", "a y", ""), "q": ("a", "a x", "z"), "r": ("x y", "", "z"), "s": ("", "a z x", "y")}
        book = Book(RULES, texts)
        slow = Slow(book)
        for asking in each_sort_ten_deep():
            self.same(answers_of(book, asking), [name for name in sorted(texts) if slow.answers(name, asking.told())])

    def test_many_askings_of_many_texts(self):
        chance = random.Random(17)
        askings = many_askings(["a", "b", "ab", "walk", "the"], 240)
        listed = 0
        for round_number in range(8):
            texts = chance_texts(chance, [1, 2, 7, 40, 7, 3, 12, 0][round_number])
            book, make = Book(RULES, texts), make_of(RULES, texts)
            slow = Slow(book)
            for asking in askings[round_number::8]:
                wanted = [name for name in sorted(texts) if slow.answers(name, asking.told())]
                listed += len(wanted)
                self.same(answers_of(book, asking), wanted)
                self.same(answers_of(make, asking), wanted)
                for name in texts:
                    self.truth(does_answer(book, name, asking), name in wanted)
                    self.truth(does_answer(make, name, asking), name in wanted)
        self.assertGreater(listed, 500)

    def test_earlier_makes_answer_as_before(self):
        house = House(RULES)
        books, texts = [Book(RULES, {})], {}
        for name in ["a", "b", "c", "d", "e", "a", "b"]:
            house.put(name, TEXTS[name])
            texts = {**texts, name: TEXTS[name]}
            books.append(Book(RULES, texts))
        for name in ["c", "a", "e"]:
            house.take(name)
            texts = {key: worth for key, worth in texts.items() if key != name}
            books.append(Book(RULES, texts))
        for number, book in enumerate(books):
            for asking, _ in ANSWERS:
                self.same(answers_of(house.make(number), asking), answers_of(book, asking))


class Refused(Checks):
    def test_what_is_none_of_the_names_whatever_the_asking_is(self):
        texts = {"sea": ("red sea", "sea", "sea"), "a": ("", "", "")}
        askings = [SEA, Begin("s"), Row(["red", "sea"]), Near(1, "a", "b"), In(0, In(1, SEA)), All([Never()]), Any([SEA]),
                   But(SEA, SEA), Also(Never(), SEA), By(0, SEA), Never()]
        for book in [Book(RULES, texts), make_of(RULES, texts), Book(RULES, {}), House(RULES).make(0)]:
            for thing in NONE_OF_THE_NAMES:
                for asking in askings:
                    self.refused(Lacking, does_answer, book, thing, asking)


class Kept(Checks):
    def test_told_lists_and_what_was_handed_in(self):
        texts = dict(TEXTS)
        book = Book(RULES, texts)
        before = all_told(book)
        asking = All([Any([RED, BLUE]), SEA])
        told = asking.told()
        first = answers_of(book, asking)
        first.reverse()
        first.append("more")
        answers_of(book, asking).clear()
        texts.clear()
        spoil_told_lists(book)
        for _ in range(2):
            self.same(answers_of(book, asking), ["a", "b", "c", "d"])
            self.truth(does_answer(book, "a", asking), True)
            self.truth(does_answer(book, "e", asking), False)
        self.same(asking.told(), told)
        self.same(all_told(book), before)


if __name__ == "__main__":
    unittest.main()
