"""Paths [14]: how many nodes, where they stand, and another one put there."""

import unittest

from shownranks.askings import All, Also, Any, Begin, But, By, In, Near, Never, Row, Word
from shownranks.errors import NoPath
from shownranks.paths import many_nodes, node_at, paths_of, with_node
from helpers import Checks


def some_asking():
    """Of thirteen nodes, with each sort."""
    return But(
        All([In(0, Any([Word("a"), By(2, Begin("b"))])), Also(Never(), Row(["c", "d"])), Word("e")]),
        Any([Near(1, "f", "g")]),
    )


SOME_PATHS = [
    (), (0,), (0, 0), (0, 0, 0), (0, 0, 0, 0), (0, 0, 0, 1), (0, 0, 0, 1, 0), (0, 1), (0, 1, 0), (0, 1, 1), (0, 2),
    (1,), (1, 0),
]
NO_PATHS = [
    (2,), (-1,), (-2,), (0, 3), (0, -1), (0, -3), (0, 0, 1), (0, 0, -1), (0, 0, 0, 2), (0, 0, 0, -1), (0, 0, 0, -2),
    (0, 0, 0, 0, 0), (0, 0, 0, 0, -1), (0, 0, 0, 1, 1), (0, 0, 0, 1, 0, 0), (0, 1, 2), (0, 1, 0, 0), (0, 1, 1, 0),
    (0, 2, 0), (1, 1), (1, 0, 0), (1, -1), (1, 0, 0, 0), (2, 0), (-1, 0), (0, -1, 0), (10 ** 30,), (-(10 ** 30),),
    (0,) * 50,
]


def deep_asking(inner):
    """Ten within one another, of all sorts that have parts; the innermost at ten noughts."""
    return All([Any([But(Also(In(0, By(1, All([Any([In(1, By(0, inner))])]))), Never()), Word("x")), Word("y")])])


def flat_asking():
    """Of forty nodes."""
    return All([Any([Word("a"), Word("b"), Word("c")]) for _ in range(9)] + [But(Word("d"), Never())])


class Nodes(Checks):
    def test_many_nodes(self):
        for asking, many in [
            (Word("a"), 1), (Begin("a"), 1), (Row(["a", "b", "c"]), 1), (Near(2, "a", "b"), 1), (Never(), 1),
            (In(0, Word("a")), 2), (By(7, Never()), 2), (But(Word("a"), Word("b")), 3), (Also(Word("a"), Never()), 3),
            (All([Word("a")]), 2), (All([Word("a"), Word("a"), Word("b")]), 4), (Any([Never(), By(1, Never())]), 4),
            (some_asking(), 13), (deep_asking(Never()), 14), (flat_asking(), 40),
        ]:
            self.same(many_nodes(asking), many)

    def test_paths_of(self):
        for asking, paths in [
            (Word("a"), [()]), (Row(["a", "b"]), [()]), (Near(2, "a", "b"), [()]), (Never(), [()]),
            (In(2, Word("a")), [(), (0,)]), (By(2, Word("a")), [(), (0,)]), (But(Word("a"), Word("b")), [(), (0,), (1,)]),
            (Also(In(0, Word("a")), Word("b")), [(), (0,), (0, 0), (1,)]),
            (All([Word("a"), By(1, Word("b")), Never()]), [(), (0,), (1,), (1, 0), (2,)]),
            (some_asking(), SOME_PATHS),
            (deep_asking(Never()), [(0,) * many for many in range(11)] + [(0, 0, 0, 1), (0, 0, 1), (0, 1)]),
        ]:
            self.same(paths_of(asking), paths)

    def test_more_than_ten_parts_stay_in_order(self):
        asking = Any([Word(f"w{number}") for number in range(39)])
        self.same(paths_of(asking), [()] + [(number,) for number in range(39)])
        self.same(node_at(asking, (38,)).told(), ("word", "w38"))

    def test_there_are_as_many_paths_as_nodes_each_once(self):
        for asking in [some_asking(), deep_asking(some_asking()), flat_asking()]:
            paths = paths_of(asking)
            self.assertEqual(len(paths), many_nodes(asking))
            self.assertEqual(len(set(paths)), len(paths))
            for path in paths:
                node_at(asking, path)


class NodeAt(Checks):
    def test_written_out(self):
        asking = some_asking()
        for path, told in [
            ((0, 0), ("in", 0, ("any", (("word", "a"), ("by", 2, ("begin", "b")))))),
            ((0, 0, 0), ("any", (("word", "a"), ("by", 2, ("begin", "b"))))),
            ((0, 0, 0, 0), ("word", "a")), ((0, 0, 0, 1), ("by", 2, ("begin", "b"))), ((0, 0, 0, 1, 0), ("begin", "b")),
            ((0, 1), ("also", ("never",), ("row", ("c", "d")))), ((0, 1, 0), ("never",)), ((0, 1, 1), ("row", ("c", "d"))),
            ((0, 2), ("word", "e")), ((1,), ("any", (("near", 1, "f", "g"),))), ((1, 0), ("near", 1, "f", "g")),
        ]:
            self.same(node_at(asking, path).told(), told)

    def test_the_whole_is_at_the_empty_path(self):
        for asking in [Word("a"), some_asking(), deep_asking(Never())]:
            self.same(node_at(asking, ()).told(), asking.told())

    def test_each_nodes_parts_are_at_its_path_and_a_number_behind(self):
        for asking in [some_asking(), deep_asking(some_asking()), flat_asking()]:
            for path in paths_of(asking):
                inner = node_at(asking, path).inner_ones()
                for at, one in enumerate(inner):
                    self.same(node_at(asking, path + (at,)).told(), one.told())
                self.refused(NoPath, node_at, asking, path + (len(inner),))
                self.refused(NoPath, node_at, asking, path + (-1,))

    def test_ten_within_one_another(self):
        self.same(node_at(deep_asking(Begin("z")), (0,) * 10).told(), ("begin", "z"))

    def test_refused_where_there_is_none(self):
        for path in NO_PATHS:
            self.refused(NoPath, node_at, some_asking(), path)
        for path in [(0,), (-1,), (1,), (0, 0)]:
            for leaf in [Word("a"), Begin("a"), Row(["a", "b"]), Near(1, "a", "b"), Never()]:
                self.refused(NoPath, node_at, leaf, path)
        self.refused(NoPath, node_at, deep_asking(Never()), (0,) * 11)


class WithNode(Checks):
    def test_written_out(self):
        asking = But(All([Word("a"), By(2, Word("b"))]), Word("c"))
        new = Begin("n")
        for path, told in [
            ((), ("begin", "n")),
            ((0,), ("but", ("begin", "n"), ("word", "c"))),
            ((1,), ("but", ("all", (("word", "a"), ("by", 2, ("word", "b")))), ("begin", "n"))),
            ((0, 0), ("but", ("all", (("begin", "n"), ("by", 2, ("word", "b")))), ("word", "c"))),
            ((0, 1), ("but", ("all", (("word", "a"), ("begin", "n"))), ("word", "c"))),
            ((0, 1, 0), ("but", ("all", (("word", "a"), ("by", 2, ("begin", "n")))), ("word", "c"))),
        ]:
            self.same(with_node(asking, path, new).told(), told)

    def test_one_place_alone_is_changed_and_the_asking_itself_stays(self):
        new = Also(Word("n"), Never())
        for make in [some_asking, lambda: deep_asking(some_asking()), flat_asking]:
            asking = make()
            for path in paths_of(asking):
                other = with_node(asking, path, new)
                self.same(asking.told(), make().told())
                self.same(node_at(other, path).told(), new.told())
                for place in paths_of(asking):
                    apart = place[:len(path)] != path and path[:len(place)] != place
                    if apart:
                        self.same(node_at(other, place).told(), node_at(asking, place).told())
                    if place != path and path[:len(place)] == place:
                        self.assertIs(type(node_at(other, place)), type(node_at(asking, place)))
                        self.assertEqual(len(node_at(other, place).inner_ones()), len(node_at(asking, place).inner_ones()))
                gone = many_nodes(node_at(asking, path))
                self.same(many_nodes(other), many_nodes(asking) - gone + 3)

    def test_the_node_that_stands_there_put_again(self):
        asking = some_asking()
        for path in paths_of(asking):
            self.same(with_node(asking, path, node_at(asking, path)).told(), asking.told())

    def test_where_the_very_same_asking_stands_at_two_places(self):
        a = Word("a")
        pair = Also(a, a)
        asking = All([pair, pair, a])
        self.same(with_node(asking, (0, 1), Never()).told(), (
            "all", (("also", ("word", "a"), ("never",)), ("also", ("word", "a"), ("word", "a")), ("word", "a")),
        ))
        self.same(with_node(asking, (1,), Never()).told(), (
            "all", (("also", ("word", "a"), ("word", "a")), ("never",), ("word", "a")),
        ))
        self.same(with_node(asking, (2,), Never()).told(), ("all", (pair.told(), pair.told(), ("never",))))
        self.same(pair.told(), ("also", ("word", "a"), ("word", "a")))
        self.same(asking.told(), ("all", (pair.told(), pair.told(), ("word", "a"))))

    def test_the_asking_put_within_itself(self):
        asking = By(3, Word("a"))
        self.same(with_node(asking, (0,), asking).told(), ("by", 3, ("by", 3, ("word", "a"))))
        self.same(asking.told(), ("by", 3, ("word", "a")))

    def test_ten_within_one_another(self):
        self.same(with_node(deep_asking(Never()), (0,) * 10, Begin("z")).told(), deep_asking(Begin("z")).told())

    def test_refused_where_there_is_none(self):
        asking = some_asking()
        for path in NO_PATHS:
            self.refused(NoPath, with_node, asking, path, Never())
        for path in [(0,), (-1,), (1,), (0, 0)]:
            for leaf in [Word("a"), Begin("a"), Row(["a", "b"]), Near(1, "a", "b"), Never()]:
                self.refused(NoPath, with_node, leaf, path, Never())
        self.refused(NoPath, with_node, deep_asking(Never()), (0,) * 11, Never())
        self.same(asking.told(), some_asking().told())


class Kept(Checks):
    """[2]: what is done later changes no answer."""

    def test_a_told_list_changed_afterwards_changes_nothing(self):
        asking = some_asking()
        paths_of(asking).append((9,))
        paths_of(asking).clear()
        for _ in range(2):
            self.same(paths_of(asking), SOME_PATHS)
            self.same(many_nodes(asking), 13)

    def test_a_told_nodes_list_changed_afterwards_changes_nothing(self):
        asking = some_asking()
        node_at(asking, (0,)).inner_ones().clear()
        with_node(asking, (0, 0), Never()).inner_ones().clear()
        self.same(asking.told(), some_asking().told())
        self.same(node_at(asking, (0,)).told(), node_at(some_asking(), (0,)).told())


if __name__ == "__main__":
    unittest.main()
