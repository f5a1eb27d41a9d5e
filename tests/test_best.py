"""The best so many [4, 22]: the beginning of the list, the blocks gone through and those skipped."""

import fractions
import random
import unittest

from shownranks.askings import All, Also, Any, Begin, But, By, In, Near, Never, Row, Word
from shownranks.best import best_of
from shownranks.blocks import blocks_of
from shownranks.books import Book
from shownranks.bounds import bound_of
from shownranks.errors import NoMany
from shownranks.houses import House
from shownranks.lists import list_of
from shownranks.papers import rank_of
from shownranks.rulebooks import Rulebook
from shownranks.weighings import Weighing
from helpers import NO_MANY, Checks, Slow, all_told, chance_texts, make_of, many_askings, spoil_told_lists

PLAIN = Rulebook([], [])
RULES = Rulebook([("ing", "", 3), ("s", "", 2), ("ies", "y", 2)], ["the", "of"])
WEIGHING = Weighing((3, 1, 2), (6, 5), (3, 4))
# By this one the rank of a leaf is (N + 1) / (n + 1) where it stands.
FLAT = Weighing((1, 1, 1), (0, 1), (0, 1))
# By this one it is that times 2t / (t + 1).
SIMPLE = Weighing((3, 1, 2), (1, 1), (0, 1))
WEIGHINGS = [((3, 1, 2), (6, 5), (3, 4)), ((0, 9, 1), (0, 1), (0, 1)), ((9, 0, 0), (7, 2), (1, 1)), ((1, 2, 3), (1, 3), (1, 2)),
             ((0, 0, 0), (1, 1), (1, 2))]
# N is 6; x stands in five, y in one of them alone.
TEXTS = {
    "a": ("", "x", ""), "b": ("x", "", ""), "c": ("", "x", ""), "d": ("", "", "z"), "e": ("", "", "x"), "f": ("x", "", "y"),
}
X, Y, Z = Word("x"), Word("y"), Word("z")
# (6 + 1) / (5 + 1) times 2t / (t + 1), t being 3, 2 and 1
HIGH, MIDDLE, LOW = (7, 4), (14, 9), (7, 6)
X_LIST = [("b", HIGH), ("f", HIGH), ("e", MIDDLE), ("a", LOW), ("c", LOW)]


class WrittenOut(Checks):
    def best(self, asking, many, wide, wanted, weighing=SIMPLE):
        self.same(best_of(Book(PLAIN, TEXTS), weighing, asking, many, wide), wanted)

    def test_blocks_of_one(self):
        bounds = {0: LOW, 1: HIGH, 2: LOW, 3: None, 4: MIDDLE, 5: HIGH}
        self.best(X, 1, 1, (X_LIST[:1], [(1, HIGH), (5, HIGH)], [(0, LOW), (2, LOW), (3, None), (4, MIDDLE)]))
        self.best(X, 2, 1, (X_LIST[:2], [(1, HIGH), (5, HIGH)], [(0, LOW), (2, LOW), (3, None), (4, MIDDLE)]))
        self.best(X, 3, 1, (X_LIST[:3], [(1, HIGH), (4, MIDDLE), (5, HIGH)], [(0, LOW), (2, LOW), (3, None)]))
        every = [(number, bounds[number]) for number in (0, 1, 2, 4, 5)]
        for many in [4, 5, 6, 40]:
            self.best(X, many, 1, (X_LIST[:many], every, [(3, None)]))

    def test_wider_blocks(self):
        self.best(X, 1, 2, (X_LIST[:1], [(0, HIGH), (2, HIGH)], [(1, LOW)]))
        self.best(X, 3, 2, (X_LIST[:3], [(0, HIGH), (2, HIGH)], [(1, LOW)]))
        self.best(X, 4, 2, (X_LIST[:4], [(0, HIGH), (1, LOW), (2, HIGH)], []))
        self.best(X, 1, 4, (X_LIST[:1], [(0, HIGH), (1, HIGH)], []))
        self.best(Y, 1, 4, ([("f", (14, 3))], [(1, (14, 3))], [(0, None)]))

    def test_blocks_of_all_names_and_of_more(self):
        for wide in [6, 7, 40]:
            for many in [1, 2, 5, 6, 40]:
                self.best(X, many, wide, (X_LIST[:many], [(0, HIGH)], []))
                self.best(Word("nowhere"), many, wide, ([], [], [(0, None)]))

    def test_so_many_as_there_are_and_one_more(self):
        # Where so many are told, blocks below the last one are skipped; where fewer are, none with a bound is.
        asking = But(X, Any([In(1, X), In(2, X)]))
        self.same(list_of(Book(PLAIN, TEXTS), SIMPLE, asking), X_LIST[:2])
        low, none = [(0, LOW), (2, LOW), (4, MIDDLE)], [(3, None)]
        self.best(asking, 2, 1, (X_LIST[:2], [(1, HIGH), (5, HIGH)], sorted(low + none)))
        self.best(asking, 3, 1, (X_LIST[:2], sorted(low + [(1, HIGH), (5, HIGH)]), none))

    def test_alike_bounds_are_gone_through(self):
        five = [(number, (7, 6)) for number in (0, 1, 2, 4, 5)]
        for many in [1, 2, 5, 6]:
            told = [(name, (7, 6)) for name in "abcef"][:many]
            self.best(X, many, 1, (told, five, [(3, None)]), FLAT)

    def test_ranks_of_nought(self):
        nought = Weighing((0, 0, 0), (1, 1), (1, 1))
        five = [(number, (0, 1)) for number in (0, 1, 2, 4, 5)]
        self.best(X, 1, 1, ([("a", (0, 1))], five, [(3, None)]), nought)
        self.best(By(0, X), 2, 1, ([("a", (0, 1)), ("b", (0, 1))], five, [(3, None)]))

    def test_a_bound_above_that_no_text_reaches(self):
        # c has x alone and d has z alone, yet their bound for both is 7/6 and 14/3, and for x once more 7/6.
        asking = Any([All([X, Z]), X])
        self.best(asking, 1, 2, (X_LIST[:1], [(0, HIGH), (1, (7, 1)), (2, HIGH)], []))
        self.same(rank_of(Book(PLAIN, TEXTS), SIMPLE, "c", asking), LOW)

    def test_no_answer(self):
        six = [(number, None) for number in range(6)]
        for asking in [Never(), Word("nowhere"), All([X, Never()]), In(0, In(1, X))]:
            for many in [1, 40]:
                self.best(asking, many, 1, ([], [], six))
        # A But that no text answers has a bound still.
        self.best(But(Y, X), 1, 3, ([], [(1, (14, 3))], [(0, None)]))

    def test_a_book_without_texts(self):
        for book in [Book(PLAIN, {}), House(PLAIN).make(0)]:
            for asking in [X, Never(), All([X]), But(X, Y), Begin("x"), Row(["a", "b"]), Near(3, "a", "b")]:
                for many in [1, 40]:
                    for wide in [1, 40]:
                        self.same(best_of(book, WEIGHING, asking, many, wide), ([], [], []))


class AsTheWordsSay(Checks):
    def books(self, sizes, weighings):
        chance = random.Random(sum(sizes))
        for number, size in enumerate(sizes):
            texts = chance_texts(chance, size)
            book = Book(RULES, texts)
            weights, rise, long = weighings[number % len(weighings)]
            yield texts, book, Weighing(weights, rise, long), Slow(book, weights, rise, long)

    def test_many_askings_of_many_texts(self):
        chance = random.Random(25)
        askings = many_askings(["a", "b", "ab", "walk", "the"], 120)
        skipped = 0
        for number, (texts, book, weighing, slow) in enumerate(self.books([1, 2, 7, 40, 12, 3], WEIGHINGS)):
            make = make_of(RULES, texts)
            for asking in askings[number::6]:
                told = asking.told()
                for many, wide in [(1, 1), (40, 40), (chance.randrange(1, 8), chance.randrange(1, 8)), (2, 3), (40, 1), (1, 40)]:
                    wanted = slow.best(told, many, wide)
                    self.same(best_of(book, weighing, asking, many, wide), wanted)
                    self.same(best_of(make, weighing, asking, many, wide), wanted)
                    self.same([row[0] for row in wanted[1]], slow.gone_from_the_greatest(told, many, wide))
                    skipped += sum(row[1] is not None for row in wanted[2])
        self.assertGreater(skipped, 50)

    def test_the_list_is_the_beginning_of_the_list_for_each_wide(self):
        askings = [X, Any([Word("a"), By(2, In(1, Word("b")))]), But(Begin("a"), Near(3, "a", "b")), Also(Word("b"), Word("ab"))]
        for _, book, weighing, _ in self.books([40, 7, 1], WEIGHINGS):
            for asking in askings:
                listed = list_of(book, weighing, asking)
                for many in [1, 2, 3, 7, 20, 39, 40]:
                    for wide in [1, 2, 3, 7, 20, 39, 40]:
                        best, gone, skipped = best_of(book, weighing, asking, many, wide)
                        self.same(best, listed[:many])
                        self.each_block_once(book, weighing, asking, wide, gone, skipped)
                        self.none_is_missed(book, weighing, asking, wide, best, skipped)

    def each_block_once(self, book, weighing, asking, wide, gone, skipped):
        blocks = blocks_of(book, wide)
        wanted = [(number, bound_of(book, weighing, block, asking)[0]) for number, block in enumerate(blocks)]
        self.same(sorted(gone + skipped, key=lambda row: row[0]), wanted)
        self.same(gone, sorted(gone, key=lambda row: row[0]))
        self.same(skipped, sorted(skipped, key=lambda row: row[0]))

    def none_is_missed(self, book, weighing, asking, wide, best, skipped):
        blocks = blocks_of(book, wide)
        for number, bound in skipped:
            for name in blocks[number]:
                rank = rank_of(book, weighing, name, asking)
                if rank is not None:
                    self.assertLess(fractions.Fraction(*rank), fractions.Fraction(*best[-1][1]))
                    self.assertLessEqual(fractions.Fraction(*rank), fractions.Fraction(*bound))
                    self.assertLess(fractions.Fraction(*bound), fractions.Fraction(*best[-1][1]))


class OfMakes(Checks):
    def test_however_the_house_came_to_its_texts_and_an_earlier_make_as_before(self):
        one, other = House(PLAIN), House(PLAIN)
        for name in "abcdef":
            one.put(name, TEXTS[name])
        for name in "fdbeca":
            other.put(name, ("x x y", "y", "z"))
            other.put("g", TEXTS["f"])
        other.take("g")
        for name in "badcfe":
            other.put(name, TEXTS[name])
        number = other.newest()
        book = Book(PLAIN, TEXTS)
        for house, make in [(one, 6), (other, number)]:
            for _ in range(2):
                for asking in [X, Any([Y, Z]), But(X, Y), Never()]:
                    for many, wide in [(1, 1), (2, 2), (40, 40)]:
                        self.same(
                            best_of(house.make(make), WEIGHING, asking, many, wide), best_of(book, WEIGHING, asking, many, wide),
                        )
                house.put("zz", ("x x x x", "y", "z"))
                house.take("b")
                house.put("b", ("x", "y", "z"))
        self.same([name for name, _ in best_of(one.make(one.newest()), WEIGHING, X, 1, 1)[0]], ["zz"])


class Refused(Checks):
    def test_any_other_number_and_anything_else_whichever_of_both_it_is(self):
        for book in [Book(PLAIN, TEXTS), make_of(PLAIN, TEXTS), Book(PLAIN, {}), House(PLAIN).make(0)]:
            for thing in NO_MANY:
                for asking in [X, Never()]:
                    self.refused(NoMany, best_of, book, WEIGHING, asking, thing, 1)
                    self.refused(NoMany, best_of, book, WEIGHING, asking, 40, thing)
                    self.refused(NoMany, best_of, book, WEIGHING, asking, thing, thing)

    def test_each_number_from_one_to_forty_is_allowed(self):
        book = Book(PLAIN, TEXTS)
        for number in range(1, 41):
            self.same(best_of(book, WEIGHING, X, number, 41 - number)[0], list_of(book, WEIGHING, X)[:number])


class Kept(Checks):
    def test_told_lists_and_what_was_handed_in(self):
        texts = dict(TEXTS)
        book = Book(PLAIN, texts)
        before = all_told(book)
        asking = Any([X, Y])
        told, wanted = asking.told(), best_of(book, WEIGHING, asking, 2, 1)
        again = best_of(book, WEIGHING, asking, 2, 1)
        for some in again:
            some.reverse()
            some.append(("more", (1, 1)))
            some.pop(0)
        for some in best_of(book, WEIGHING, asking, 2, 1):
            some.clear()
        texts.clear()
        spoil_told_lists(book)
        for _ in range(2):
            self.same(best_of(book, WEIGHING, asking, 2, 1), wanted)
        self.same(asking.told(), told)
        self.same(all_told(book), before)


if __name__ == "__main__":
    unittest.main()
