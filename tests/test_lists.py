"""Lists [4, 11, 20]: all texts that answer and none else, the greater rank first."""

import random
import unittest

from shownranks.answering import answers_of
from shownranks.askings import All, Also, Any, Begin, But, By, In, Near, Never, Row, Word
from shownranks.books import Book
from shownranks.houses import House
from shownranks.lists import list_of
from shownranks.papers import rank_of
from shownranks.rulebooks import Rulebook
from shownranks.weighings import Weighing
from helpers import Checks, Slow, all_told, chance_texts, make_of, many_askings, spoil_told_lists

PLAIN = Rulebook([], [])
RULES = Rulebook([("ing", "", 3), ("s", "", 2), ("ies", "y", 2)], ["the", "of"])
WEIGHING = Weighing((3, 1, 2), (6, 5), (3, 4))
NO_WEIGHT = Weighing((0, 0, 0), (6, 5), (3, 4))
TEXTS = {"a": ("red sea", "sea", ""), "b": ("", "red", "blue"), "c": ("", "", "")}
RED, SEA, BLUE = Word("red"), Word("sea"), Word("blue")


class WrittenOut(Checks):
    def test_reckoned_by_hand(self):
        book = Book(PLAIN, TEXTS)
        for asking, wanted in [
            (SEA, [("a", (110, 37))]),
            (RED, [("a", (220, 123)), ("b", (440, 357))]),
            (All([SEA, RED]), [("a", (21670, 4551))]),
            (By(0, RED), [("a", (0, 1)), ("b", (0, 1))]),
            (But(RED, SEA), [("b", (440, 357))]),
            (Never(), []),
            (Word("nowhere"), []),
            (In(0, In(1, RED)), []),
        ]:
            self.same(list_of(book, WEIGHING, asking), wanted)

    def test_the_greater_rank_first(self):
        texts = {"a": ("", "x", ""), "b": ("x", "", ""), "c": ("", "", "x"), "d": ("x", "x", "x"), "e": ("y", "", "")}
        for turned in [texts, dict(reversed(list(texts.items())))]:
            told = list_of(Book(PLAIN, turned), Weighing((3, 1, 2), (6, 5), (0, 1)), Word("x"))
            self.same([name for name, _ in told], ["d", "b", "c", "a"])

    def test_alike_ones_by_name(self):
        texts = {name: ("", "x y", "") for name in ["q", "b", "zz", "aa", "a", "ab", "m"]}
        texts["n"] = ("x", "", "")
        told = list_of(Book(PLAIN, texts), WEIGHING, Word("x"))
        self.same([name for name, _ in told], ["n", "a", "aa", "ab", "b", "m", "q", "zz"])
        self.same(len({rank for _, rank in told}), 2)
        told = list_of(Book(PLAIN, texts), NO_WEIGHT, Word("x"))
        self.same(told, [(name, (0, 1)) for name in sorted(texts)])
        told = list_of(Book(PLAIN, texts), WEIGHING, By(0, Word("x")))
        self.same(told, [(name, (0, 1)) for name in sorted(texts)])

    def test_ranks_that_are_compared_as_fractions(self):
        # The top alone, the bottom alone or the digits would order these otherwise.
        texts = {f"{letter}": ("x " * (1 + at), "y " * (7 * at), "") for at, letter in enumerate("abcdefghij")}
        book = Book(PLAIN, texts)
        for weighing in [WEIGHING, Weighing((1, 5, 0), (1, 7), (1, 1)), Weighing((9, 9, 9), (10 ** 60 - 1, 10 ** 60 - 3), (1, 3))]:
            slow = Slow(book, weighing.weights(), weighing.rise(), weighing.long())
            for asking in [Word("x"), Any([Word("x"), Word("y")]), Also(Word("y"), By(3, Word("x")))]:
                self.same(list_of(book, weighing, asking), slow.listed(asking.told()))

    def test_weights_of_nought_list_all_that_answer(self):
        book = Book(PLAIN, TEXTS)
        self.same(list_of(book, NO_WEIGHT, RED), [("a", (0, 1)), ("b", (0, 1))])
        self.same(list_of(book, NO_WEIGHT, All([SEA, RED])), [("a", (0, 1))])
        self.same(list_of(book, Weighing((0, 1, 1), (0, 1), (1, 1)), RED), [("b", (4, 3)), ("a", (0, 1))])

    def test_a_book_without_texts(self):
        for book in [Book(PLAIN, {}), House(PLAIN).make(0)]:
            for asking in [SEA, Begin("s"), Never(), All([SEA]), By(0, SEA), Row(["a", "b"]), Near(3, "a", "b")]:
                self.same(list_of(book, WEIGHING, asking), [])


class AsTheWordsSay(Checks):
    def test_many_askings_of_many_texts(self):
        chance = random.Random(21)
        askings = many_askings(["a", "b", "ab", "walk", "the"], 160)
        weighings = [((3, 1, 2), (6, 5), (3, 4)), ((0, 9, 1), (0, 1), (0, 1)), ((9, 0, 0), (7, 2), (1, 1)), ((1, 2, 3), (1, 3), (1, 2))]
        listed = 0
        for number in range(8):
            texts = chance_texts(chance, [1, 2, 7, 40, 7, 3, 12, 5][number])
            book, make = Book(RULES, texts), make_of(RULES, texts)
            weights, rise, long = weighings[number % 4]
            weighing, slow = Weighing(weights, rise, long), Slow(book, weights, rise, long)
            for asking in askings[number::8]:
                told = list_of(book, weighing, asking)
                self.same(told, slow.listed(asking.told()))
                self.same(list_of(make, weighing, asking), told)
                self.same(sorted(name for name, _ in told), answers_of(book, asking))
                for name, rank in told:
                    self.same(rank_of(book, weighing, name, asking), rank)
                listed += len(told)
        self.assertGreater(listed, 300)

    def test_what_is_not_listed_has_no_rank(self):
        book = Book(PLAIN, TEXTS)
        for asking in [SEA, RED, BLUE, But(RED, SEA), Never(), In(2, RED), All([RED, BLUE])]:
            listed = [name for name, _ in list_of(book, WEIGHING, asking)]
            for name in TEXTS:
                self.assertEqual(rank_of(book, WEIGHING, name, asking) is None, name not in listed)


class OfMakes(Checks):
    """[4, 11]: whatever row of changes made it, a make answers as one book of all its texts does."""

    def test_each_make_of_many_changes(self):
        askings = [Word("a"), All([Word("a"), Begin("w")]), Any([Row(["a", "b"]), By(2, In(1, Word("b")))]),
                   But(Begin("a"), Near(3, "a", "b")), Also(Word("b"), In(0, Word("a")))]
        for start in range(3):
            chance = random.Random(start)
            house, texts, books = House(RULES), {}, [Book(RULES, {})]
            pool = chance_texts(chance, 12)
            for _ in range(60):
                name = chance.choice(sorted(pool))
                if name in texts and chance.randrange(2):
                    house.take(name)
                    texts = {key: worth for key, worth in texts.items() if key != name}
                else:
                    parts = pool[chance.choice(sorted(pool))]
                    house.put(name, parts)
                    texts = {**texts, name: parts}
                books.append(Book(RULES, texts))
            for number in list(range(61)) + [0, 30]:
                for asking in askings:
                    self.same(list_of(house.make(number), WEIGHING, asking), list_of(books[number], WEIGHING, asking))

    def test_two_rows_of_changes_to_the_same_texts(self):
        one, other = House(PLAIN), House(PLAIN)
        for name in "abc":
            one.put(name, TEXTS[name])
        for name in "cab":
            other.put(name, ("sea sea", "red", "sea"))
            other.put("d", TEXTS["b"])
        other.take("d")
        for name in "bca":
            other.put(name, TEXTS[name])
        for asking in [SEA, RED, Any([SEA, BLUE]), Never()]:
            self.same(
                list_of(one.make(one.newest()), WEIGHING, asking), list_of(other.make(other.newest()), WEIGHING, asking),
            )

    def test_an_earlier_make_as_before(self):
        house = House(PLAIN)
        for name in "abc":
            house.put(name, TEXTS[name])
        make = house.make(3)
        before = list_of(make, WEIGHING, RED)
        house.put("a", ("", "", ""))
        house.take("b")
        house.put("d", ("red red", "", ""))
        self.same(before, [("a", (220, 123)), ("b", (440, 357))])
        self.same(list_of(make, WEIGHING, RED), before)
        self.same(list_of(house.make(3), WEIGHING, RED), before)
        self.same([name for name, _ in list_of(house.make(6), WEIGHING, RED)], ["d"])


class Kept(Checks):
    def test_told_lists_and_what_was_handed_in(self):
        texts = dict(TEXTS)
        book = Book(PLAIN, texts)
        before = all_told(book)
        asking = Any([RED, BLUE])
        told, wanted = asking.told(), list_of(book, WEIGHING, asking)
        again = list_of(book, WEIGHING, asking)
        again.reverse()
        again.append(("more", (1, 1)))
        list_of(book, WEIGHING, asking).clear()
        texts.clear()
        spoil_told_lists(book)
        for _ in range(2):
            self.same(list_of(book, WEIGHING, asking), wanted)
        self.same(asking.told(), told)
        self.same(all_told(book), before)


if __name__ == "__main__":
    unittest.main()
