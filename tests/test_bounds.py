"""Bounds [21, 22]: what no text of some ranks above, with its numbers."""

import fractions
import random
import unittest

from shownranks.askings import All, Also, Any, Begin, But, By, In, Near, Never, Row, Word
from shownranks.books import Book
from shownranks.bounds import bound_of
from shownranks.errors import Lacking
from shownranks.houses import House
from shownranks.papers import rank_of
from shownranks.paths import node_at, paths_of
from shownranks.rulebooks import Rulebook
from shownranks.weighings import Weighing
from helpers import (
    NONE_OF_THE_NAMES, Checks, Slow, all_told, chance_texts, each_sort_ten_deep, make_of, many_askings, spoil_told_lists,
)

PLAIN = Rulebook([], [])
RULES = Rulebook([("ing", "", 3), ("s", "", 2), ("ies", "y", 2)], ["the", "of"])
WEIGHING = Weighing((3, 1, 2), (6, 5), (3, 4))
# Ranks by this one are t times (N + 1) / (n + 1) times 2 / (t + 1), so that they can be reckoned at sight.
SIMPLE = Weighing((3, 1, 2), (1, 1), (0, 1))
WEIGHINGS = [((3, 1, 2), (6, 5), (3, 4)), ((0, 9, 1), (0, 1), (0, 1)), ((9, 0, 0), (7, 2), (1, 1)), ((0, 0, 0), (1, 1), (1, 2)),
             ((1, 2, 3), (10 ** 60 - 7, 10 ** 59 + 3), (10 ** 59, 10 ** 60 - 11))]
TEXTS = {
    "a": ("red", "sea sea", ""),
    "b": ("", "red", "blue sea blue"),
    "c": ("", "", ""),
    "d": ("", "red sea red sea red sea", ""),
}
RED, SEA, BLUE, NONE = Word("red"), Word("sea"), Word("blue"), Word("nowhere")
NEVER_BOUND = (None, (), ())


class OfLeaves(Checks):
    """N is 4, T is 13; "red" stands in a (t 3, L 3), b (t 1, L 4) and d (t 3, L 6)."""

    def bound(self, names, asking, wanted):
        self.same(bound_of(Book(PLAIN, TEXTS), SIMPLE, list(names), asking), wanted)

    def test_a_word(self):
        # (4 + 1) / (3 + 1) * 3 * 2 / (3 + 1), and with 1 instead of 3
        self.bound("abcd", RED, ((15, 8), (3, 3, 3), ()))
        self.bound("a", RED, ((15, 8), (3, 3, 3), ()))
        self.bound("b", RED, ((5, 4), (3, 1, 4), ()))
        self.bound("d", RED, ((15, 8), (3, 3, 6), ()))
        self.bound("c", RED, (None, (3, 0, 0), ()))
        self.bound("bc", RED, ((5, 4), (3, 1, 4), ()))

    def test_the_greatest_t_and_the_least_length_may_be_of_unlike_texts(self):
        self.bound("bd", RED, ((15, 8), (3, 3, 4), ()))
        self.bound("db", RED, ((15, 8), (3, 3, 4), ()))
        # (4 + 1) / (3 + 1) * 3 * 11/5 / (3 + 6/5 (1/4 + 3/4 * 4 * 4 / 13)): t of d, L of b
        wanted = fractions.Fraction(5, 4) * 3 * fractions.Fraction(11, 5)
        wanted /= 3 + fractions.Fraction(6, 5) * (fractions.Fraction(1, 4) + fractions.Fraction(3, 4) * 16 / 13)
        told = bound_of(Book(PLAIN, TEXTS), WEIGHING, ["b", "d"], RED)
        self.same(told, ((wanted.numerator, wanted.denominator), (3, 3, 4), ()))

    def test_texts_in_which_it_does_not_stand_play_no_part(self):
        # c has length 0, and a, of length 3, no "blue".
        self.bound("abcd", BLUE, ((4, 1), (1, 4, 4), ()))
        self.bound("acb", BLUE, ((4, 1), (1, 4, 4), ()))
        self.bound("acd", BLUE, (None, (1, 0, 0), ()))

    def test_a_leaf_that_stands_nowhere(self):
        for names in ["a", "abcd", "cb"]:
            self.bound(names, NONE, (None, (0, 0, 0), ()))
            self.bound(names, Row(["blue", "red"]), (None, (0, 0, 0), ()))

    def test_the_other_leaves(self):
        self.bound("abcd", Begin("s"), ((15, 8), (3, 3, 3), ()))
        self.bound("b", Begin("s"), ((5, 3), (3, 2, 4), ()))
        # Rows: "red sea" thrice in d alone; Near: "sea sea" beside one another in a, two pairs of them in d.
        self.bound("abcd", Row(["red", "sea"]), ((15, 4), (1, 3, 6), ()))
        self.bound("abcd", Near(2, "sea", "sea"), ((20, 9), (2, 2, 3), ()))
        self.bound("a", Near(2, "sea", "sea"), ((5, 3), (2, 1, 3), ()))
        self.bound("c", Near(2, "sea", "sea"), (None, (2, 0, 0), ()))

    def test_within_an_in_and_within_ins(self):
        # In the body "red" stands in b and d alone.
        self.bound("abcd", In(1, RED), ((5, 2), (), (((5, 2), (2, 3, 4), ()),)))
        self.bound("a", In(1, RED), (None, (), ((None, (2, 0, 0), ()),)))
        self.bound("abcd", In(1, In(1, RED)), ((5, 2), (), (((5, 2), (), (((5, 2), (2, 3, 4), ()),)),)))
        self.bound("abcd", In(1, In(0, RED)), (None, (), ((None, (), ((None, (0, 0, 0), ()),)),)))

    def test_weights_of_nought_give_a_bound_of_nought(self):
        told = bound_of(Book(PLAIN, TEXTS), Weighing((0, 0, 0), (1, 1), (0, 1)), ["b", "d"], RED)
        self.same(told, ((0, 1), (3, 0, 4), ()))
        told = bound_of(Book(PLAIN, TEXTS), Weighing((0, 1, 0), (0, 1), (1, 1)), ["a"], RED)
        self.same(told, ((0, 1), (3, 0, 3), ()))


class OfTheOthers(Checks):
    """Each sort that is no leaf, over texts of which some answer a part and others another one."""

    RED_BOUND, SEA_BOUND, BLUE_BOUND = ((15, 8), (3, 3, 3), ()), ((15, 8), (3, 3, 3), ()), ((4, 1), (1, 4, 4), ())
    NONE_BOUND = (None, (0, 0, 0), ())

    def bound(self, asking, wanted, names="abcd"):
        self.same(bound_of(Book(PLAIN, TEXTS), SIMPLE, list(names), asking), wanted)

    def test_all(self):
        self.bound(All([RED]), ((15, 8), (), (self.RED_BOUND,)))
        self.bound(All([RED, SEA]), ((15, 4), (), (self.RED_BOUND, self.SEA_BOUND)))
        self.bound(All([RED, NONE]), (None, (), (self.RED_BOUND, self.NONE_BOUND)))
        self.bound(All([Never(), RED]), (None, (), (NEVER_BOUND, self.RED_BOUND)))

    def test_an_all_that_no_single_text_answers_has_a_bound_still(self):
        in_head = ((15, 4), (), (((15, 4), (1, 3, 3), ()),))
        self.bound(All([In(0, RED), BLUE]), ((31, 4), (), (in_head, self.BLUE_BOUND)), "ab")
        self.bound(All([RED, BLUE]), (None, (), (self.RED_BOUND, (None, (1, 0, 0), ()))), "a")

    def test_any(self):
        self.bound(Any([RED, NONE]), ((15, 8), (), (self.RED_BOUND, self.NONE_BOUND)))
        self.bound(Any([NONE, RED, BLUE]), ((47, 8), (), (self.NONE_BOUND, self.RED_BOUND, self.BLUE_BOUND)))
        self.bound(Any([NONE, Never()]), (None, (), (self.NONE_BOUND, NEVER_BOUND)))
        self.bound(Any([NONE]), (None, (), (self.NONE_BOUND,)))

    def test_but_is_the_first_ones_whatever_the_second_is(self):
        self.bound(But(RED, SEA), ((15, 8), (), (self.RED_BOUND, self.SEA_BOUND)))
        self.bound(But(RED, NONE), ((15, 8), (), (self.RED_BOUND, self.NONE_BOUND)))
        self.bound(But(RED, RED), ((15, 8), (), (self.RED_BOUND, self.RED_BOUND)))
        self.bound(But(NONE, RED), (None, (), (self.NONE_BOUND, self.RED_BOUND)))
        self.bound(But(NONE, NONE), (None, (), (self.NONE_BOUND, self.NONE_BOUND)))

    def test_also(self):
        self.bound(Also(RED, BLUE), ((47, 8), (), (self.RED_BOUND, self.BLUE_BOUND)))
        self.bound(Also(RED, NONE), ((15, 8), (), (self.RED_BOUND, self.NONE_BOUND)))
        self.bound(Also(NONE, RED), (None, (), (self.NONE_BOUND, self.RED_BOUND)))
        self.bound(Also(Never(), NONE), (None, (), (NEVER_BOUND, self.NONE_BOUND)))

    def test_by(self):
        self.bound(By(0, RED), ((0, 1), (), (self.RED_BOUND,)))
        self.bound(By(1, RED), ((15, 8), (), (self.RED_BOUND,)))
        self.bound(By(8, RED), ((15, 1), (), (self.RED_BOUND,)))
        self.bound(By(999, BLUE), ((3996, 1), (), (self.BLUE_BOUND,)))
        self.bound(By(0, NONE), (None, (), (self.NONE_BOUND,)))

    def test_never(self):
        self.bound(Never(), NEVER_BOUND)
        self.bound(In(0, Never()), (None, (), (NEVER_BOUND,)))
        self.bound(By(3, Never()), (None, (), (NEVER_BOUND,)))

    def test_deep_within(self):
        self.bound(
            By(2, Also(But(Any([RED, NONE]), SEA), All([BLUE, In(1, Never())]))),
            (
                (15, 4), (), (((15, 8), (), (
                    ((15, 8), (), (((15, 8), (), (self.RED_BOUND, self.NONE_BOUND)), self.SEA_BOUND)),
                    (None, (), (self.BLUE_BOUND, (None, (), (NEVER_BOUND,)))),
                )),),
            ),
        )


def some_names(chance, names):
    """One, some and all of the names, in any order."""
    return [[chance.choice(names)], chance.sample(names, chance.randrange(1, len(names) + 1)), chance.sample(names, len(names))]


class AsTheWordsSay(Checks):
    def test_many_askings_of_many_texts(self):
        chance = random.Random(21)
        askings = many_askings(["a", "b", "ab", "walk", "the"], 160)
        ranks = 0
        for number in range(8):
            texts = chance_texts(chance, [1, 2, 7, 40, 7, 3, 12, 5][number])
            book, make = Book(RULES, texts), make_of(RULES, texts)
            weights, rise, long = WEIGHINGS[number % 5]
            weighing, slow = Weighing(weights, rise, long), Slow(book, weights, rise, long)
            for asking in askings[number::8]:
                for names in some_names(chance, sorted(texts)):
                    wanted = slow.bound(names, asking.told())
                    handed = list(names)
                    self.same(bound_of(book, weighing, handed, asking), wanted)
                    self.same(handed, names)
                    self.same(bound_of(make, weighing, sorted(names), asking), wanted)
                    ranks += wanted[0] is not None
        self.assertGreater(ranks, 150)

    def test_ten_within_one_another(self):
        texts = {"p": ("a x", "a y", ""), "q": ("a", "a x", "z"), "r": ("x y", "", "z"), "s": ("", "a z x", "y")}
        book = Book(RULES, texts)
        slow = Slow(book)
        for asking in each_sort_ten_deep():
            for names in ["p", "rs", "qp", "srqp"]:
                self.same(bound_of(book, WEIGHING, list(names), asking), slow.bound(list(names), asking.told()))


class NoTextRanksAbove(Checks):
    """[22]"""

    def test_of_many_askings(self):
        chance = random.Random(22)
        above, closed = 0, 0
        for number, asking in enumerate(many_askings(["a", "b", "ab", "walk"], 120) + each_sort_ten_deep()):
            texts = chance_texts(chance, [1, 2, 7, 12][number % 4])
            book = Book(RULES, texts)
            weights, rise, long = WEIGHINGS[number % 5]
            weighing = Weighing(weights, rise, long)
            for names in some_names(chance, sorted(texts)):
                bound = bound_of(book, weighing, names, asking)[0]
                for name in names:
                    rank = rank_of(book, weighing, name, asking)
                    if bound is None:
                        self.assertIsNone(rank)
                        closed += 1
                    elif rank is not None:
                        self.assertLessEqual(fractions.Fraction(*rank), fractions.Fraction(*bound))
                        above += bound != rank
        self.assertGreater(above, 20)
        self.assertGreater(closed, 20)

    def test_of_one_text_and_without_a_but_it_is_the_rank(self):
        chance = random.Random(24)
        ranks = 0
        for number, asking in enumerate(many_askings(["a", "b", "ab", "walk"], 200)):
            if any(isinstance(node_at(asking, path), But) for path in paths_of(asking)):
                continue
            texts = chance_texts(chance, [1, 3, 7][number % 3])
            book = Book(RULES, texts)
            for name in texts:
                rank = rank_of(book, WEIGHING, name, asking)
                self.same(bound_of(book, WEIGHING, [name], asking)[0], rank)
                ranks += rank is not None
                more = bound_of(book, WEIGHING, [name, chance.choice(sorted(texts))], asking)[0]
                if rank is not None:
                    self.assertGreaterEqual(fractions.Fraction(*more), fractions.Fraction(*rank))
        self.assertGreater(ranks, 30)

    def test_with_a_but_the_bound_of_one_text_may_be_greater_than_nothing(self):
        book = Book(PLAIN, TEXTS)
        self.assertIsNone(rank_of(book, SIMPLE, "a", But(RED, SEA)))
        self.same(bound_of(book, SIMPLE, ["a"], But(RED, SEA))[0], (15, 8))


class OfMakes(Checks):
    def test_an_earlier_make_as_before(self):
        house = House(PLAIN)
        for name in "abcd":
            house.put(name, TEXTS[name])
        house.take("a")
        house.put("b", ("red red red", "", ""))
        for _ in range(2):
            self.same(bound_of(house.make(4), SIMPLE, ["a", "b"], RED), ((15, 8), (3, 3, 3), ()))
            self.same(bound_of(house.make(5), SIMPLE, ["b", "d"], RED), ((2, 1), (2, 3, 4), ()))
        self.refused(Lacking, bound_of, house.make(5), SIMPLE, ["a"], RED)

    def test_a_name_that_is_none_of_the_books(self):
        for book in [Book(PLAIN, TEXTS), make_of(PLAIN, TEXTS)]:
            for thing in NONE_OF_THE_NAMES:
                if thing != "a":
                    self.refused(Lacking, bound_of, book, SIMPLE, [thing], RED)
                    self.refused(Lacking, bound_of, book, SIMPLE, ["a", thing], Never())


class Kept(Checks):
    def test_what_is_handed_in_stays_and_the_same_is_told_again(self):
        texts = dict(TEXTS)
        book = Book(PLAIN, texts)
        before = all_told(book)
        names = ["d", "b", "a"]
        asking = Also(All([SEA, RED]), BLUE)
        told = asking.told()
        first = bound_of(book, SIMPLE, names, asking)
        self.same(names, ["d", "b", "a"])
        texts.clear()
        spoil_told_lists(book)
        names.clear()
        asking.inner_ones().clear()
        for _ in range(2):
            self.same(bound_of(book, SIMPLE, ["d", "b", "a"], asking), first)
            self.same(bound_of(book, SIMPLE, ["a", "b", "d"], asking), first)
        self.same(asking.told(), told)
        self.same(all_told(book), before)


if __name__ == "__main__":
    unittest.main()
