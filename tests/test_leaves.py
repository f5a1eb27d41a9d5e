"""Leaves [16]: where they stand in an asking, and in which parts each is looked for."""

import unittest

from shownranks.askings import All, Also, Any, Begin, But, By, In, Near, Never, Row, Word
from shownranks.leaves import leaves_of
from shownranks.paths import node_at, paths_of
from helpers import Checks, each_sort_ten_deep, many_askings

A = Word("a")
LEAVES = [Word("a"), Begin("a"), Row(["a", "b"]), Near(3, "a", "b")]
EVERYWHERE = (0, 1, 2)


def slow_leaves(asking):
    """[16] by paths: each leaf's parts are those that all the Ins above it have."""
    leaves = []
    for path in paths_of(asking):
        if node_at(asking, path).told()[0] in ("word", "begin", "row", "near"):
            above = [node_at(asking, path[:many]).told() for many in range(len(path))]
            ins = [told[1] for told in above if told[0] == "in"]
            leaves.append((path, tuple(part for part in EVERYWHERE if all(part == one for one in ins))))
    return leaves


class Leaves(Checks):
    def leaves(self, asking, wanted):
        self.same(leaves_of(asking), wanted)

    def test_each_sort_of_leaf(self):
        for leaf in LEAVES:
            self.leaves(leaf, [((), EVERYWHERE)])
            for part in EVERYWHERE:
                self.leaves(In(part, leaf), [((0,), (part,))])

    def test_no_leaf_in_a_never(self):
        for asking in [Never(), In(0, Never()), By(3, Never()), All([Never(), Never()]), Any([Never()]), But(Never(), Never()),
                       Also(Never(), In(1, Never()))]:
            self.leaves(asking, [])
        self.leaves(All([Never(), A, Never()]), [((1,), EVERYWHERE)])

    def test_each_sort_that_has_parts(self):
        for asking, wanted in [
            (By(0, A), [((0,), EVERYWHERE)]),
            (All([A]), [((0,), EVERYWHERE)]),
            (All([A, A, A]), [((0,), EVERYWHERE), ((1,), EVERYWHERE), ((2,), EVERYWHERE)]),
            (Any([A, Begin("b")]), [((0,), EVERYWHERE), ((1,), EVERYWHERE)]),
            (But(A, A), [((0,), EVERYWHERE), ((1,), EVERYWHERE)]),
            (Also(A, A), [((0,), EVERYWHERE), ((1,), EVERYWHERE)]),
        ]:
            self.leaves(asking, wanted)

    def test_ins_of_the_same_part(self):
        for part in EVERYWHERE:
            self.leaves(In(part, In(part, A)), [((0, 0), (part,))])
            self.leaves(In(part, By(2, In(part, All([A, In(part, A)])))), [((0, 0, 0, 0), (part,)), ((0, 0, 0, 1, 0), (part,))])

    def test_ins_of_unlike_parts(self):
        for one in EVERYWHERE:
            for other in EVERYWHERE:
                if one != other:
                    self.leaves(In(one, In(other, A)), [((0, 0), ())])
                    self.leaves(In(one, In(other, In(one, A))), [((0, 0, 0), ())])
                    self.leaves(In(one, All([A, In(other, A), In(one, A)])), [((0, 0), (one,)), ((0, 1, 0), ()), ((0, 2, 0), (one,))])

    def test_an_in_ends_where_it_ends(self):
        self.leaves(All([In(0, A), A, In(1, A), In(2, A), A]), [
            ((0, 0), (0,)), ((1,), EVERYWHERE), ((2, 0), (1,)), ((3, 0), (2,)), ((4,), EVERYWHERE),
        ])

    def test_within_the_second_of_a_but_and_of_an_also(self):
        self.leaves(But(In(0, A), In(1, All([A, In(2, A)]))), [((0, 0), (0,)), ((1, 0, 0), (1,)), ((1, 0, 1, 0), ())])
        self.leaves(Also(A, In(2, But(A, A))), [((0,), EVERYWHERE), ((1, 0, 0), (2,)), ((1, 0, 1), (2,))])
        self.leaves(In(1, But(A, Also(In(0, A), A))), [((0, 0), (1,)), ((0, 1, 0, 0), ()), ((0, 1, 1), (1,))])

    def test_in_the_order_of_paths(self):
        asking = Any([Word(f"w{number}") for number in range(39)])
        self.leaves(asking, [((number,), EVERYWHERE) for number in range(39)])
        asking = But(All([In(0, Any([A, By(2, Begin("b"))])), Also(Never(), Row(["c", "d"])), A]), Any([Near(1, "f", "g")]))
        self.leaves(asking, [
            ((0, 0, 0, 0), (0,)), ((0, 0, 0, 1, 0), (0,)), ((0, 1, 1), EVERYWHERE), ((0, 2), EVERYWHERE), ((1, 0), EVERYWHERE),
        ])

    def test_many_askings_as_the_words_say(self):
        for asking in many_askings(["a", "b", "cd"], 800) + each_sort_ten_deep():
            self.leaves(asking, slow_leaves(asking))


class Kept(Checks):
    def test_what_is_handed_in_stays_and_told_lists_do_not_meet(self):
        asking = In(0, All([A, Also(A, In(1, A))]))
        told, wanted = asking.told(), [((0, 0), (0,)), ((0, 1, 0), (0,)), ((0, 1, 1, 0), ())]
        first = leaves_of(asking)
        first.reverse()
        first.append(((9,), ()))
        leaves_of(asking).clear()
        self.same(leaves_of(asking), wanted)
        self.same(asking.told(), told)


if __name__ == "__main__":
    unittest.main()
