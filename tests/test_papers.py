"""Papers [19, 20]: ranks, and the numbers of which they are made."""

import random
import unittest

from shownranks.answering import does_answer
from shownranks.askings import All, Also, Any, Begin, But, By, In, Near, Never, Row, Word
from shownranks.books import Book
from shownranks.counts import count_of, many_with
from shownranks.errors import Lacking
from shownranks.fractions import product_of, sum_of
from shownranks.houses import House
from shownranks.leaves import leaves_of
from shownranks.papers import paper_of, rank_of
from shownranks.paths import node_at, paths_of
from shownranks.rulebooks import Rulebook
from shownranks.weighings import Weighing
from helpers import (
    NONE_OF_THE_NAMES, Checks, Slow, all_told, chance_texts, each_sort_ten_deep, make_of, many_askings, spoil_told_lists,
)

PLAIN = Rulebook([], [])
RULES = Rulebook([("ing", "", 3), ("s", "", 2), ("ies", "y", 2)], ["the", "of"])
WEIGHING = Weighing((3, 1, 2), (6, 5), (3, 4))
TEXTS = {"a": ("red sea", "sea", ""), "b": ("", "red", "blue"), "c": ("", "", "")}
RED, SEA, BLUE, NONE = Word("red"), Word("sea"), Word("blue"), Word("nowhere")

# The ranks of the leaves in these three texts, reckoned by hand (see test_weighings).
A_SEA, A_RED, B_RED = (110, 37), (220, 123), (440, 357)
A_SEA_PAPER = (A_SEA, (1, (1, 1, 0), 4, 3), ())
A_RED_PAPER = (A_RED, (2, (1, 0, 0), 3, 3), ())
A_BLUE_PAPER = (None, (1, (0, 0, 0), 0, 3), ())
A_NONE_PAPER = (None, (0, (0, 0, 0), 0, 3), ())
NEVER_PAPER = (None, (), ())
# 110/37 + 220/123
A_BOTH = (21670, 4551)


class OfOneText(Checks):
    """The papers of the text "a", written out."""

    def setUp(self):
        self.book = Book(PLAIN, TEXTS)

    def paper(self, asking, wanted):
        self.same(paper_of(self.book, WEIGHING, "a", asking), wanted)
        self.same(rank_of(self.book, WEIGHING, "a", asking), wanted[0])

    def test_leaves(self):
        self.paper(SEA, A_SEA_PAPER)
        self.paper(RED, A_RED_PAPER)
        self.same(paper_of(self.book, WEIGHING, "b", RED), (B_RED, (2, (0, 1, 0), 1, 2), ()))
        self.paper(Begin("s"), A_SEA_PAPER)
        self.paper(Row(["red", "sea"]), ((110, 41), (1, (1, 0, 0), 3, 3), ()))
        self.paper(Near(1, "sea", "red"), ((110, 41), (1, (1, 0, 0), 3, 3), ()))

    def test_leaves_where_they_do_not_stand(self):
        self.paper(BLUE, A_BLUE_PAPER)
        self.paper(NONE, A_NONE_PAPER)
        self.same(paper_of(self.book, WEIGHING, "c", RED), (None, (2, (0, 0, 0), 0, 0), ()))
        self.paper(Row(["sea", "red"]), A_NONE_PAPER)
        self.paper(Near(20, "sea", "sea"), A_NONE_PAPER)

    def test_within_an_in_the_numbers_are_of_its_part_alone(self):
        self.paper(In(0, SEA), ((110, 41), (), (((110, 41), (1, (1, 0, 0), 3, 3), ()),)))
        inner = paper_of(self.book, WEIGHING, "a", In(1, SEA))[2][0]
        self.same(inner[1], (1, (0, 1, 0), 1, 3))
        self.paper(In(2, SEA), (None, (), ((None, (0, (0, 0, 0), 0, 3), ()),)))
        self.paper(In(0, RED), ((110, 41), (), (((110, 41), (1, (1, 0, 0), 3, 3), ()),)))
        self.same(paper_of(self.book, WEIGHING, "b", In(0, RED)), (None, (), ((None, (1, (0, 0, 0), 0, 2), ()),)))

    def test_within_ins(self):
        once = paper_of(self.book, WEIGHING, "a", In(0, SEA))
        self.paper(In(0, In(0, SEA)), (once[0], (), (once,)))
        self.paper(In(0, In(1, SEA)), (None, (), ((None, (), (A_NONE_PAPER,)),)))

    def test_all(self):
        self.paper(All([SEA]), (A_SEA, (), (A_SEA_PAPER,)))
        self.paper(All([SEA, RED]), (A_BOTH, (), (A_SEA_PAPER, A_RED_PAPER)))
        self.paper(All([SEA, SEA]), ((220, 37), (), (A_SEA_PAPER, A_SEA_PAPER)))
        self.paper(All([SEA, BLUE]), (None, (), (A_SEA_PAPER, A_BLUE_PAPER)))
        self.paper(All([SEA, Never()]), (None, (), (A_SEA_PAPER, NEVER_PAPER)))

    def test_any(self):
        self.paper(Any([SEA, RED]), (A_BOTH, (), (A_SEA_PAPER, A_RED_PAPER)))
        self.paper(Any([BLUE, SEA]), (A_SEA, (), (A_BLUE_PAPER, A_SEA_PAPER)))
        self.paper(Any([Never(), SEA, BLUE, RED]), (A_BOTH, (), (NEVER_PAPER, A_SEA_PAPER, A_BLUE_PAPER, A_RED_PAPER)))
        self.paper(Any([BLUE]), (None, (), (A_BLUE_PAPER,)))
        self.paper(Any([BLUE, Never()]), (None, (), (A_BLUE_PAPER, NEVER_PAPER)))

    def test_but(self):
        self.paper(But(SEA, BLUE), (A_SEA, (), (A_SEA_PAPER, A_BLUE_PAPER)))
        self.paper(But(SEA, RED), (None, (), (A_SEA_PAPER, A_RED_PAPER)))
        self.paper(But(BLUE, NONE), (None, (), (A_BLUE_PAPER, A_NONE_PAPER)))
        self.paper(But(BLUE, RED), (None, (), (A_BLUE_PAPER, A_RED_PAPER)))
        self.paper(But(SEA, Never()), (A_SEA, (), (A_SEA_PAPER, NEVER_PAPER)))
        self.paper(But(SEA, By(0, RED)), (None, (), (A_SEA_PAPER, ((0, 1), (), (A_RED_PAPER,)))))

    def test_also(self):
        self.paper(Also(SEA, RED), (A_BOTH, (), (A_SEA_PAPER, A_RED_PAPER)))
        self.paper(Also(SEA, BLUE), (A_SEA, (), (A_SEA_PAPER, A_BLUE_PAPER)))
        self.paper(Also(BLUE, SEA), (None, (), (A_BLUE_PAPER, A_SEA_PAPER)))
        self.paper(Also(BLUE, NONE), (None, (), (A_BLUE_PAPER, A_NONE_PAPER)))
        self.paper(Also(SEA, Never()), (A_SEA, (), (A_SEA_PAPER, NEVER_PAPER)))

    def test_by(self):
        self.paper(By(0, SEA), ((0, 1), (), (A_SEA_PAPER,)))
        self.paper(By(1, SEA), (A_SEA, (), (A_SEA_PAPER,)))
        self.paper(By(37, SEA), ((110, 1), (), (A_SEA_PAPER,)))
        self.paper(By(74, SEA), ((220, 1), (), (A_SEA_PAPER,)))
        self.paper(By(999, SEA), ((109890 // 37, 1), (), (A_SEA_PAPER,)))
        self.paper(By(0, BLUE), (None, (), (A_BLUE_PAPER,)))
        self.paper(By(3, Never()), (None, (), (NEVER_PAPER,)))

    def test_never(self):
        self.paper(Never(), NEVER_PAPER)

    def test_deep_within(self):
        self.paper(
            Also(But(All([SEA, By(2, RED)]), BLUE), In(2, Any([SEA, Never()]))),
            (
                sum_of(A_BOTH, A_RED), (), (
                    (sum_of(A_BOTH, A_RED), (), (
                        (sum_of(A_BOTH, A_RED), (), (A_SEA_PAPER, (product_of((2, 1), A_RED), (), (A_RED_PAPER,)))),
                        A_BLUE_PAPER,
                    )),
                    (None, (), ((None, (), (A_NONE_PAPER, NEVER_PAPER)),)),
                ),
            ),
        )


class Weights(Checks):
    def test_weights_of_nought_give_a_rank_of_nought(self):
        book = Book(PLAIN, TEXTS)
        weighing = Weighing((0, 0, 0), (0, 1), (1, 1))
        self.same(paper_of(book, weighing, "a", SEA), ((0, 1), (1, (1, 1, 0), 0, 3), ()))
        self.same(rank_of(book, weighing, "a", All([SEA, RED])), (0, 1))
        self.same(rank_of(book, weighing, "a", BLUE), None)

    def test_a_weight_of_nought_where_the_leaf_stands(self):
        book = Book(PLAIN, TEXTS)
        self.same(paper_of(book, Weighing((0, 1, 1), (6, 5), (3, 4)), "a", RED), ((0, 1), (2, (1, 0, 0), 0, 3), ()))
        self.same(paper_of(book, Weighing((0, 1, 1), (6, 5), (3, 4)), "a", SEA)[1], (1, (1, 1, 0), 1, 3))
        self.same(paper_of(book, Weighing((9, 0, 9), (0, 1), (3, 4)), "b", RED), ((0, 1), (2, (0, 1, 0), 0, 2), ()))

    def test_t_is_the_sum_of_weight_times_count(self):
        book = Book(PLAIN, {"a": ("x", "x x", "x x x")})
        for weights, t in [((9, 9, 9), 54), ((1, 0, 0), 1), ((0, 1, 0), 2), ((0, 0, 1), 3), ((5, 3, 2), 17)]:
            self.same(paper_of(book, Weighing(weights, (6, 5), (3, 4)), "a", Word("x"))[1], (1, (1, 2, 3), t, 6))
            self.same(paper_of(book, Weighing(weights, (6, 5), (3, 4)), "a", In(1, Word("x")))[2][0][1], (1, (0, 2, 0), 2 * weights[1], 6))


class AddsUp(Checks):
    """[4]: the paper of each text adds up, and its numbers are those of the texts."""

    def node(self, paper, path):
        for at in path:
            paper = paper[2][at]
        return paper

    def adds_up(self, book, weighing, name, asking):
        paper = paper_of(book, weighing, name, asking)
        leaves = dict(leaves_of(asking))
        for path in paths_of(asking):
            rank, numbers, parts = self.node(paper, path)
            node = node_at(asking, path)
            self.assertEqual(len(parts), len(node.inner_ones()))
            if path in leaves:
                looked = leaves[path]
                n, counts, t, length = numbers
                self.same(n, many_with(book, looked, node))
                self.same(counts, tuple(count_of(book, name, part, node) if part in looked else 0 for part in (0, 1, 2)))
                self.same(t, sum(weight * count for weight, count in zip(weighing.weights(), counts)))
                self.same(length, book.length(name))
                wanted = weighing.leaf_rank(n, t, length, len(book.names()), book.total()) if sum(counts) > 0 else None
                self.same(rank, wanted)
            else:
                self.same(numbers, ())
        self.assertEqual(paper[0] is not None, does_answer(book, name, asking))

    def test_many_papers(self):
        chance = random.Random(20)
        texts = chance_texts(chance, 7)
        book = Book(RULES, texts)
        for asking in many_askings(["a", "b", "ab", "walk"], 120) + each_sort_ten_deep():
            self.adds_up(book, WEIGHING, chance.choice(sorted(texts)), asking)


class AsTheWordsSay(Checks):
    def test_many_askings_of_many_texts(self):
        chance = random.Random(19)
        askings = many_askings(["a", "b", "ab", "walk", "the"], 240)
        weighings = [((3, 1, 2), (6, 5), (3, 4)), ((0, 9, 1), (0, 1), (0, 1)), ((9, 0, 0), (7, 2), (1, 1)),
                     ((0, 0, 0), (1, 1), (1, 2)), ((1, 2, 3), (10 ** 60 - 7, 10 ** 59 + 3), (10 ** 59, 10 ** 60 - 11))]
        ranks = 0
        for number in range(8):
            texts = chance_texts(chance, [1, 2, 7, 40, 7, 3, 12, 5][number])
            book, make = Book(RULES, texts), make_of(RULES, texts)
            weights, rise, long = weighings[number % 5]
            weighing, slow = Weighing(weights, rise, long), Slow(book, weights, rise, long)
            for asking in askings[number::8]:
                for name in chance.sample(sorted(texts), min(5, len(texts))):
                    wanted = slow.paper(name, asking.told())
                    self.same(paper_of(book, weighing, name, asking), wanted)
                    self.same(paper_of(make, weighing, name, asking), wanted)
                    self.same(rank_of(book, weighing, name, asking), wanted[0])
                    ranks += wanted[0] is not None
        self.assertGreater(ranks, 100)

    def test_ten_within_one_another(self):
        texts = {"p": ("a x", "a y", ""), "q": ("a", "a x", "z"), "r": ("x y", "", "z"), "s": ("", "a z x", "y")}
        book = Book(RULES, texts)
        slow = Slow(book)
        for asking in each_sort_ten_deep():
            for name in texts:
                self.same(paper_of(book, WEIGHING, name, asking), slow.paper(name, asking.told()))

    def test_ranks_of_very_many_figures(self):
        texts = {
            name: (f"{name} w1 w2", " ".join(f"w{number} " * (1 + (number + at) % 5) for number in range(25)), "")
            for at, name in enumerate(["p", "q", "r", "s"])
        }
        book = Book(PLAIN, texts)
        weights, rise, long = (9, 7, 8), (10 ** 60 - 7, 10 ** 59 + 3), (10 ** 59 + 7, 10 ** 60 - 11)
        weighing, slow = Weighing(weights, rise, long), Slow(book, weights, rise, long)
        asking = By(7, All([Any([Word(f"w{number}"), Word(f"w{number + 1}")]) for number in range(12)]))
        for name in texts:
            paper = paper_of(book, weighing, name, asking)
            self.same(paper, slow.paper(name, asking.told()))
            self.assertGreater(paper[0][1], 10 ** 300)

    def test_earlier_makes_tell_papers_as_before(self):
        house = House(PLAIN)
        house.put("a", TEXTS["a"])
        house.put("b", TEXTS["b"])
        number = house.put("c", TEXTS["c"])
        before = [paper_of(house.make(number), WEIGHING, name, All([SEA, RED])) for name in "abc"]
        house.put("d", ("sea red", "", ""))
        house.take("a")
        self.same([paper_of(house.make(number), WEIGHING, name, All([SEA, RED])) for name in "abc"], before)
        self.same(before[0], (A_BOTH, (), (A_SEA_PAPER, A_RED_PAPER)))
        self.refused(Lacking, paper_of, house.make(house.newest()), WEIGHING, "a", SEA)


class Refused(Checks):
    def test_what_is_none_of_the_names_whatever_the_asking_is(self):
        texts = {"sea": ("red sea", "sea", "sea"), "a": ("", "", "")}
        askings = [SEA, Begin("s"), Row(["red", "sea"]), Near(1, "a", "b"), In(0, In(1, SEA)), All([Never()]), Any([SEA]),
                   But(SEA, SEA), Also(Never(), SEA), By(0, SEA), Never()]
        for book in [Book(RULES, texts), make_of(RULES, texts), Book(RULES, {}), House(RULES).make(0)]:
            for thing in NONE_OF_THE_NAMES:
                for asking in askings:
                    self.refused(Lacking, paper_of, book, WEIGHING, thing, asking)
                    self.refused(Lacking, rank_of, book, WEIGHING, thing, asking)


class Kept(Checks):
    def test_what_is_handed_in_stays_and_the_same_is_told_again(self):
        texts = dict(TEXTS)
        book = Book(PLAIN, texts)
        before = all_told(book)
        asking = Also(All([SEA, RED]), BLUE)
        told = asking.told()
        first = paper_of(book, WEIGHING, "a", asking)
        texts.clear()
        spoil_told_lists(book)
        asking.inner_ones().clear()
        for _ in range(2):
            self.same(paper_of(book, WEIGHING, "a", asking), first)
            self.same(rank_of(book, WEIGHING, "a", asking), A_BOTH)
        self.same(asking.told(), told)
        self.same(all_told(book), before)
        self.same([WEIGHING.weights(), WEIGHING.rise(), WEIGHING.long()], [(3, 1, 2), (6, 5), (3, 4)])


if __name__ == "__main__":
    unittest.main()
