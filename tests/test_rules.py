"""Rules [23]: the cost of an asking, and all its steps."""

import random
import unittest

from shownranks.askings import All, Also, Any, Begin, But, By, In, Near, Never, Row, Word
from shownranks.books import Book
from shownranks.houses import House
from shownranks.lists import list_of
from shownranks.paths import node_at, paths_of, with_node
from shownranks.reading import read_asking, show_asking
from shownranks.rulebooks import Rulebook
from shownranks.rules import cost_of, steps_of
from shownranks.weighings import Weighing
from helpers import (
    Checks, chance_texts, cheapable_askings, each_sort_ten_deep, make_of, many_askings, slow_cost, slow_steps,
)

RULES = Rulebook([("ing", "", 3), ("s", "", 2), ("ies", "y", 2)], ["the", "of"])
WEIGHINGS = [Weighing((3, 1, 2), (6, 5), (3, 4)), Weighing((0, 9, 1), (0, 1), (0, 1)), Weighing((1, 2, 3), (7, 3), (1, 1))]

COSTS = [
    ("a", (1, 1)), ("a*", (1, 1)), ("row(a b c)", (1, 1)), ("near(3 a b)", (1, 1)), ("-", (1, 1)), ("in(head a)", (1, 2)),
    ("by(3 a)", (1, 2)), ("all(a)", (1, 2)), ("all(a; b)", (2, 3)), ("any(a; -; b)", (3, 4)), ("but(a; b)", (2, 3)),
    ("also(-; -)", (2, 3)), ("in(head by(2 in(head -)))", (1, 4)), ("all(any(a; b); but(row(a b); by(0 -)))", (4, 8)),
]

# An asking, and all its steps: the rule, the path as its numbers one behind another, and what is put there.
STEPS = [
    # one
    ("all(a)", [("one", "", "a")]),
    ("any(row(a b))", [("one", "", "row(a b)")]),
    ("all(any(a))", [("one", "", "any(a)"), ("one", "0", "a")]),
    ("all(a; any(b); all(c; d))", [("one", "1", "b"), ("flat", "", "all(a; any(b); c; d)")]),
    ("any(but(a; b))", [("one", "", "but(a; b)")]),
    # flat
    ("all(a; all(b; c); d)", [("flat", "", "all(a; b; c; d)")]),
    ("any(any(a; b); c)", [("flat", "", "any(a; b; c)")]),
    ("all(all(a; b); all(c; d))", [("flat", "", "all(a; b; all(c; d))"), ("flat", "", "all(all(a; b); c; d)")]),
    ("all(a; all(b; all(c; d)))", [("flat", "", "all(a; b; all(c; d))"), ("flat", "1", "all(b; c; d)")]),
    ("all(all(a; b))", [("one", "", "all(a; b)"), ("flat", "", "all(a; b)")]),
    ("any(any(any(a)))", [
        ("one", "", "any(any(a))"), ("flat", "", "any(any(a))"), ("one", "0", "any(a)"), ("flat", "0", "any(a)"),
        ("one", "00", "a"),
    ]),
    ("all(a; any(b; c))", []),
    ("any(a; all(b; c))", []),
    ("all(a; by(2 all(b; c)))", []),
    ("all(a; in(head all(b; c)))", []),
    ("any(all(a; all(b; c)); any(d; e))", [("flat", "", "any(all(a; all(b; c)); d; e)"), ("flat", "0", "all(a; b; c)")]),
    # like
    ("all(a; a)", [("like", "", "all(by(2 a))")]),
    ("any(b; a; c; a)", [("like", "", "any(b; by(2 a); c)")]),
    ("any(by(2 a); b; by(3 a))", [("like", "", "any(by(5 a); b)")]),
    ("all(a; by(0 a); b)", [("like", "", "all(by(1 a); b)")]),
    ("any(by(0 a); by(0 a); b)", [("like", "", "any(by(0 a); b)")]),
    ("all(a; a; a)", [("like", "", "all(by(2 a); a)"), ("like", "", "all(a; by(2 a))")]),
    ("all(a; b; a; b)", [("like", "", "all(by(2 a); b; b)"), ("like", "", "all(a; by(2 b); a)")]),
    ("all(a; by(2 a); by(3 a))", [
        ("like", "", "all(by(3 a); by(3 a))"), ("like", "", "all(by(4 a); by(2 a))"), ("like", "", "all(a; by(5 a))"),
    ]),
    ("also(a; a)", [("like", "", "by(2 a)")]),
    ("also(by(2 a); a)", [("like", "", "by(3 a)")]),
    ("also(by(0 a); by(0 a))", [("like", "", "by(0 a)")]),
    ("also(but(a; b); by(7 but(a; b)))", [("like", "", "by(8 but(a; b))")]),
    ("all(row(a b); row(a b); c)", [("like", "", "all(by(2 row(a b)); c)")]),
    ("all(in(head a); in(head a); b)", [("like", "", "all(by(2 in(head a)); b)")]),
    ("all(in(head by(2 a)); in(head a); b)", []),
    ("all(a; a*; row(a a); near(1 a a); in(head a); any(a; b))", []),
    ("all(near(1 a b); near(2 a b); near(1 b a))", []),
    ("all(row(a b); row(b a))", []),
    ("all(all(a; b); any(a; b))", [("flat", "", "all(a; b; any(a; b))")]),
    ("any(but(a; b); but(b; a); also(a; b))", []),
    ("also(a; b)", []),
    ("also(a; all(a; b))", []),
    ("but(a; b)", []),
    # The rest of a By of a By is the By within.
    ("all(by(2 by(3 a)); by(3 a); b)", [("by", "0", "by(6 a)")]),
    ("all(by(2 by(3 a)); by(5 by(3 a)); b)", [
        ("like", "", "all(by(7 by(3 a)); b)"), ("by", "0", "by(6 a)"), ("by", "1", "by(15 a)"),
    ]),
    ("all(by(998 a); a; b)", [("like", "", "all(by(999 a); b)")]),
    ("all(by(999 a); a; b)", []),
    ("any(by(500 a); by(499 a); b)", [("like", "", "any(by(999 a); b)")]),
    ("any(by(500 a); by(501 a); b)", []),
    ("also(by(999 a); a)", []),
    ("also(by(999 a); by(0 a))", [("like", "", "by(999 a)")]),
    # by
    ("by(1 a)", [("by", "", "a")]),
    ("by(0 a)", []),
    ("by(2 a)", []),
    ("by(2 by(3 a))", [("by", "", "by(6 a)")]),
    ("by(1 by(3 a))", [("by", "", "by(3 a)")]),
    ("by(1 by(1 a))", [("by", "", "by(1 a)"), ("by", "0", "a")]),
    ("by(3 by(1 a))", [("by", "", "by(3 a)"), ("by", "0", "a")]),
    ("by(2 by(3 by(5 a)))", [("by", "", "by(6 by(5 a))"), ("by", "0", "by(15 a)")]),
    ("by(27 by(37 a))", [("by", "", "by(999 a)")]),
    ("by(2 by(500 a))", []),
    ("by(999 by(999 a))", []),
    ("by(0 by(999 a))", [("by", "", "by(0 a)")]),
    ("by(999 by(0 a))", [("by", "", "by(0 a)")]),
    ("by(1 by(999 a))", [("by", "", "by(999 a)")]),
    ("by(2 in(head by(3 a)))", []),
    ("all(by(1 a); b)", [("by", "0", "a")]),
    # pull
    ("all(by(2 a); by(2 b))", [("pull", "", "by(2 all(a; b))")]),
    ("any(by(0 a); by(0 b); by(0 c))", [("pull", "", "by(0 any(a; b; c))")]),
    ("all(by(2 a); by(2 a))", [("pull", "", "by(2 all(a; a))"), ("like", "", "all(by(4 a))")]),
    ("any(by(2 by(3 a)); by(2 b))", [("pull", "", "by(2 any(by(3 a); b))"), ("by", "0", "by(6 a)")]),
    ("all(by(2 a))", [("one", "", "by(2 a)")]),
    ("all(by(2 a); by(3 b))", []),
    ("all(by(2 a); by(2 b); c)", []),
    ("all(by(2 a); by(2 b); by(3 c))", []),
    ("but(by(2 a); by(3 b))", [("behind", "1", "b")]),
    ("also(by(2 a); by(2 b))", []),
    # part
    ("all(in(head a); in(head b))", [("part", "", "in(head all(a; b))")]),
    ("any(in(marks a); in(marks b); in(marks c))", [("part", "", "in(marks any(a; b; c))")]),
    ("any(in(body a); in(body a))", [("part", "", "in(body any(a; a))"), ("like", "", "any(by(2 in(body a)))")]),
    ("any(in(body a))", [("one", "", "in(body a)")]),
    ("any(in(body a); in(head b))", []),
    ("any(in(body a); in(body b); c)", []),
    ("all(in(body a); in(body b); in(head c))", []),
    ("also(in(body a); in(body b))", []),
    # in
    ("in(head in(head a))", [("in", "", "in(head a)")]),
    ("in(head in(body a))", [("in", "", "-")]),
    ("in(marks in(head any(a; b)))", [("in", "", "-")]),
    ("in(head in(body in(head a)))", [("in", "", "-"), ("in", "0", "-")]),
    ("in(head in(head in(body a)))", [("in", "", "in(head in(body a))"), ("in", "0", "-")]),
    ("in(head a)", []),
    ("in(head by(2 in(head a)))", []),
    ("in(head all(in(body a); b))", []),
    # never
    ("-", []),
    ("all(a; -; b)", [("never", "", "-")]),
    ("all(-)", [("one", "", "-"), ("never", "", "-")]),
    ("all(-; -)", [("never", "", "-"), ("like", "", "all(by(2 -))")]),
    ("but(-; a)", [("never", "", "-")]),
    ("also(-; a)", [("never", "", "-")]),
    ("but(a; -)", [("never", "", "a")]),
    ("also(a; -)", [("never", "", "a")]),
    ("but(-; -)", [("never", "", "-"), ("away", "", "-")]),
    ("also(-; -)", [("never", "", "-"), ("like", "", "by(2 -)")]),
    ("in(head -)", [("never", "", "-")]),
    ("by(3 -)", [("never", "", "-")]),
    ("by(1 -)", [("never", "", "-"), ("by", "", "-")]),
    ("any(a; -)", [("never", "", "any(a)")]),
    ("any(-; a; -; b)", [
        ("never", "", "any(a; -; b)"), ("never", "", "any(-; a; b)"), ("like", "", "any(by(2 -); a; b)"),
    ]),
    ("any(-; -)", [("never", "", "any(-)"), ("like", "", "any(by(2 -))")]),
    ("any(-)", [("one", "", "-")]),
    ("all(a; in(head -); b)", [("never", "1", "-")]),
    ("any(a; all(b; by(2 -)))", [("never", "11", "-")]),
    # away
    ("but(a; a)", [("away", "", "-")]),
    ("but(all(a; b); all(a; b))", [("away", "", "-")]),
    ("but(a; a*)", []),
    ("but(all(a; b); all(b; a))", []),
    ("but(a; by(1 a))", [("by", "1", "a"), ("behind", "1", "a")]),
    ("also(but(a; a); b)", [("away", "0", "-")]),
    # behind: at the second of a But, within it, and nowhere else
    ("but(a; by(3 b))", [("behind", "1", "b")]),
    ("but(by(3 a); b)", []),
    ("but(a; also(b; c))", [("behind", "1", "b")]),
    ("but(also(a; c); b)", []),
    ("but(a; in(head by(0 b)))", [("behind", "10", "b")]),
    ("but(a; all(b; by(2 c); also(d; e)))", [("behind", "11", "c"), ("behind", "12", "d")]),
    ("but(a; by(1 b))", [("by", "1", "b"), ("behind", "1", "b")]),
    ("but(a; by(2 by(3 b)))", [("by", "1", "by(6 b)"), ("behind", "1", "by(3 b)"), ("behind", "10", "b")]),
    ("but(a; but(by(2 b); by(3 c)))", [("behind", "10", "b"), ("behind", "11", "c")]),
    ("but(a; also(by(2 b); c))", [("behind", "1", "by(2 b)"), ("behind", "10", "b")]),
    ("but(a; also(b; b))", [("behind", "1", "b"), ("like", "1", "by(2 b)")]),
    ("all(but(a; by(3 b)); by(3 c))", [("behind", "01", "b")]),
    ("but(but(a; by(2 b)); c)", [("behind", "01", "b")]),
    ("but(d; all(a; any(a; b)))", [("behind", "1", "all(a)")]),
    ("but(d; any(all(b; a); c; a))", [("behind", "1", "any(c; a)")]),
    ("all(a; any(a; b))", []),
    ("any(a; all(a; b))", []),
    ("but(all(a; any(a; b)); d)", []),
    ("but(d; all(a; c; any(c; b); any(b; a)))", [
        ("behind", "1", "all(a; c; any(b; a))"), ("behind", "1", "all(a; c; any(c; b))"),
    ]),
    ("but(d; all(a; b; any(a; b)))", [("behind", "1", "all(a; b)")]),
    ("but(d; all(a; any(a; b); any(a; b)))", [
        ("behind", "1", "all(a; any(a; b))"), ("like", "1", "all(a; by(2 any(a; b)))"),
    ]),
    ("but(d; all(any(a; c); any(b; any(a; c))))", [
        ("behind", "1", "all(any(a; c))"), ("flat", "11", "any(b; a; c)"),
    ]),
    ("but(d; all(a; any(b; c)))", []),
    ("but(d; all(a; any(b; all(a; c))))", []),
    ("but(d; all(a; by(2 any(a; b))))", [("behind", "11", "any(a; b)")]),
    ("but(d; any(a; any(a; b)))", [("flat", "1", "any(a; a; b)")]),
    ("but(d; all(a; all(a; b)))", [("flat", "1", "all(a; a; b)")]),
    ("but(d; all(in(head a); any(in(head a); b)))", [("behind", "1", "all(in(head a))")]),
    ("but(d; also(all(a; any(a; b)); c))", [("behind", "1", "all(a; any(a; b))"), ("behind", "10", "all(a)")]),
    # Nothing to be done
    ("a", []), ("a*", []), ("row(a a)", []), ("near(3 a a)", []),
    ("but(all(a; by(2 b)); any(in(head c); in(body d)))", []),
]


def told_steps(asking):
    """The steps of an asking, with what is put as it is told."""
    return [(rule, path, put.told()) for rule, path, put in steps_of(asking)]


class Costs(Checks):
    def test_written_out(self):
        for written, cost in COSTS:
            self.same(cost_of(read_asking(written)), cost)

    def test_many(self):
        for asking in many_askings(["a", "b"], 200) + each_sort_ten_deep() + cheapable_askings(200):
            self.same(cost_of(asking), slow_cost(asking.told()))


class Steps(Checks):
    def test_written_out(self):
        for written, steps in STEPS:
            wanted = [(rule, tuple(int(at) for at in path), read_asking(put).told()) for rule, path, put in steps]
            told = told_steps(read_asking(written))
            self.assertEqual(sorted(told, key=repr), sorted(wanted, key=repr), written)

    def test_each_rule_has_its_turn(self):
        rules = {rule for _, steps in STEPS for rule, _, _ in steps}
        self.assertEqual(rules, set("one flat like by pull part in never away behind".split()))

    def test_what_is_told_is_a_list_of_tuples(self):
        for written, _ in STEPS:
            told = steps_of(read_asking(written))
            self.assertIsInstance(told, list)
            for step in told:
                self.assertIs(type(step), tuple)
                self.assertEqual([type(step[0]), type(step[1])], [str, tuple])
                self.same(read_asking(show_asking(step[2])).told(), step[2].told())

    def test_rests_that_are_other_objects(self):
        def made():
            return But(All([Word("a"), In(1, Row(["b", "c"]))]), Near(2, "d", "e"))
        for asking, rule in [
            (All([made(), Word("x"), made()]), "like"), (Any([By(2, made()), By(3, made())]), "like"),
            (Also(made(), By(4, made())), "like"), (But(made(), made()), "away"),
            (But(Word("x"), All([made(), Any([Word("y"), made()])])), "behind"),
            (But(Word("x"), Any([All([made(), Word("y")]), made()])), "behind"),
        ]:
            self.assertIn(rule, [step[0] for step in steps_of(asking)])
            self.assertEqual(set(told_steps(asking)), slow_steps(asking.told()))

    def test_many_askings(self):
        seen = {}
        for asking in cheapable_askings(1200) + many_askings(["a", "b"], 200) + each_sort_ten_deep():
            told = told_steps(asking)
            self.assertEqual(len(told), len(set(told)), asking.told())
            self.assertEqual(set(told), slow_steps(asking.told()), asking.told())
            for rule, _, _ in told:
                seen[rule] = seen.get(rule, 0) + 1
        self.assertEqual(len(seen), 10)
        self.assertGreater(min(seen.values()), 50)

    def test_each_step_lowers_the_cost(self):
        for asking in cheapable_askings(300) + [read_asking(written) for written, _ in STEPS]:
            for _, path, put in steps_of(asking):
                self.assertLess(cost_of(with_node(asking, path, put)), cost_of(asking))
                self.assertLess(cost_of(put), cost_of(node_at(asking, path)))

    def test_forty_nodes_and_ten_within_one_another(self):
        asking = Any([Word("a")] * 39)
        self.assertEqual(set(told_steps(asking)), slow_steps(asking.told()))
        deep = Word("a")
        for _ in range(10):
            deep = But(Word("b"), By(2, deep))
        self.assertEqual(len(steps_of(deep)), 10)


class SameAnswers(Checks):
    """[4, 23]: behind each single step the asking has the same answers with the same ranks in the same order."""

    def test_in_books_and_makes(self):
        chance = random.Random(26)
        texts = chance_texts(chance, 9)
        books = [Book(RULES, texts), make_of(RULES, chance_texts(chance, 5)), Book(RULES, {}), House(RULES).make(0)]
        written = [read_asking(text) for text, steps in STEPS if steps]
        listed, seen = 0, set()
        for number, asking in enumerate(written + cheapable_askings(150)):
            for book in books:
                weighing = WEIGHINGS[number % 3]
                wanted = list_of(book, weighing, asking)
                listed += len(wanted)
                for rule, path, put in steps_of(asking):
                    self.same(list_of(book, weighing, with_node(asking, path, put)), wanted)
                    if wanted:
                        seen.add(rule)
        self.assertGreater(listed, 300)
        self.assertEqual(seen, set("one flat like by pull part in never away behind".split()))


class Kept(Checks):
    def test_the_asking_stays_and_the_same_is_told_again(self):
        for asking in cheapable_askings(60) + [read_asking(written) for written, _ in STEPS]:
            before, paths = asking.told(), paths_of(asking)
            first = told_steps(asking)
            told = steps_of(asking)
            for _, _, put in told:
                put.inner_ones().clear()
            told.reverse()
            told.append(("more", (), Never()))
            steps_of(asking).clear()
            for _ in range(2):
                self.same(told_steps(asking), first)
            self.same(asking.told(), before)
            self.same(paths_of(asking), paths)

    def test_a_list_of_parts_changed_afterwards(self):
        parts = [Word("a"), Word("a")]
        asking = All(parts)
        parts[1] = Begin("b")
        self.same(told_steps(asking), [("like", (), ("all", (("by", 2, ("word", "a")),)))])


if __name__ == "__main__":
    unittest.main()
