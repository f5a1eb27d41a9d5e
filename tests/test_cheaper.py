"""Cheaper askings [4, 23]: an asking without steps, and the steps to it."""

import random
import unittest

from shownranks.askings import All, Any, By, Never, Word
from shownranks.books import Book
from shownranks.cheaper import cheaper
from shownranks.houses import House
from shownranks.lists import list_of
from shownranks.papers import rank_of
from shownranks.paths import node_at, with_node
from shownranks.reading import read_asking, show_asking
from shownranks.rulebooks import Rulebook
from shownranks.rules import cost_of, steps_of
from shownranks.weighings import Weighing
from helpers import (
    Checks, chance_texts, cheapable_askings, each_sort_ten_deep, make_of, many_askings, slow_steps,
)

RULES = Rulebook([("ing", "", 3), ("s", "", 2), ("ies", "y", 2)], ["the", "of"])
WEIGHINGS = [Weighing((3, 1, 2), (6, 5), (3, 4)), Weighing((0, 9, 1), (0, 1), (0, 1)), Weighing((1, 2, 3), (7, 3), (1, 1))]

# Askings of which all steps lead to the same one.
ENDS = [
    ("all(a)", "a"), ("any(any(any(a)))", "a"), ("all(a; all(b; all(c)))", "all(a; b; c)"), ("all(a; a)", "by(2 a)"),
    ("any(a; b; a)", "any(by(2 a); b)"), ("also(a; by(998 a))", "by(999 a)"), ("also(a; by(999 a))", "also(a; by(999 a))"),
    ("by(1 by(2 by(3 a)))", "by(6 a)"), ("all(by(2 a); by(2 b))", "by(2 all(a; b))"), ("in(head in(head a))", "in(head a)"),
    ("any(in(head a); in(head b))", "in(head any(a; b))"), ("in(head in(body a))", "-"), ("all(a; in(head -))", "-"),
    ("any(a; by(3 -))", "a"), ("but(a; all(b; -))", "a"), ("but(a; a)", "-"), ("but(all(b; c); by(2 all(b; by(3 c))))", "-"),
    ("but(a; by(2 also(b; c)))", "but(a; b)"), ("but(a; all(b; any(c; b)))", "but(a; b)"), ("any(-; -)", "-"),
    ("but(-; a)", "-"), ("also(a; but(b; b))", "a"),
]

WITHOUT_STEPS = ["a", "a*", "-", "row(a a)", "near(3 a a)", "in(head a)", "by(0 a)", "all(a; b)", "any(a; all(a; b))", "but(a; b)",
                 "also(a; b)", "all(by(2 a); by(3 b))", "any(in(head a); in(body a))", "but(by(3 a); in(head any(a; b)))"]


def plain(told):
    """What cheaper tells, with askings as they are told."""
    asking, steps = told
    return (asking.told(), [(rule, path, put.told()) for rule, path, put in steps])


class Cheaper(Checks):
    def leads_there(self, asking):
        """Each step is one of the asking that stands then, and the last one leads to what is told."""
        told = cheaper(asking)
        self.assertEqual([type(told), len(told), type(told[1])], [tuple, 2, list])
        found, steps = told
        stands = asking
        for step in steps:
            self.assertEqual([type(step), len(step)], [tuple, 3])
            rule, path, put = step
            self.assertIn((rule, path, put.told()), slow_steps(stands.told()))
            before = cost_of(stands)
            stands = with_node(stands, path, put)
            self.same(node_at(stands, path).told(), put.told())
            self.assertLess(cost_of(stands), before)
        self.same(found.told(), stands.told())
        self.same(steps_of(found), [])
        self.assertEqual(slow_steps(found.told()), set())
        return found, steps

    def test_written_out(self):
        for written, wanted in ENDS:
            found, _ = self.leads_there(read_asking(written))
            self.same(show_asking(found), wanted)

    def test_an_asking_without_steps_is_told_as_it_is(self):
        for written in WITHOUT_STEPS:
            self.same(plain(cheaper(read_asking(written))), (read_asking(written).told(), []))

    def test_one_step(self):
        self.same(plain(cheaper(read_asking("but(a; by(2 b))")))[1], [("behind", (1,), ("word", "b"))])

    def test_many(self):
        steps = 0
        for asking in cheapable_askings(250) + many_askings(["a", "b"], 100) + each_sort_ten_deep():
            steps += len(self.leads_there(asking)[1])
        self.assertGreater(steps, 500)

    def test_made_cheaper_once_more_it_has_no_further_step(self):
        for asking in cheapable_askings(100):
            found, _ = cheaper(asking)
            self.same(plain(cheaper(found)), (found.told(), []))

    def test_forty_nodes_and_ten_within_one_another(self):
        found, steps = self.leads_there(All([Word("a")] * 39))
        self.same(show_asking(found), "by(39 a)")
        deep = Never()
        for number in range(10):
            deep = [Any([deep, Word("b")]), By(2, deep), All([deep])][number % 3]
        self.leads_there(deep)


class SameAnswers(Checks):
    def test_in_books_and_makes(self):
        chance = random.Random(27)
        books = [
            Book(RULES, chance_texts(chance, 9)), make_of(RULES, chance_texts(chance, 5)), Book(RULES, chance_texts(chance, 40)),
            House(RULES).make(0),
        ]
        listed = 0
        for number, asking in enumerate(cheapable_askings(150) + many_askings(["a", "b", "ab", "walk"], 60)):
            found, _ = cheaper(asking)
            for book in books:
                weighing = WEIGHINGS[number % 3]
                wanted = list_of(book, weighing, asking)
                self.same(list_of(book, weighing, found), wanted)
                listed += len(wanted)
                for name in book.names()[:2]:
                    self.same(rank_of(book, weighing, name, found), rank_of(book, weighing, name, asking))
        self.assertGreater(listed, 300)


class Kept(Checks):
    def test_the_asking_stays_and_the_very_same_is_told_again(self):
        for asking in cheapable_askings(60):
            before = asking.told()
            first = plain(cheaper(asking))
            found, steps = cheaper(asking)
            steps.reverse()
            steps.append(("more", (), Never()))
            found.inner_ones().clear()
            cheaper(asking)[1].clear()
            for _ in range(2):
                self.same(plain(cheaper(asking)), first)
                self.same(plain(cheaper(read_asking(show_asking(asking)))), first)
            self.same(asking.told(), before)


if __name__ == "__main__":
    unittest.main()
