"""Askings [12]: eleven sorts, what they are made of, and what is refused."""

import unittest

from shownranks.askings import All, Also, Any, Asking, Begin, But, By, In, Near, Never, Row, Word
from shownranks.errors import NoAsking
from helpers import Checks

SORTS = [Word, Begin, Row, Near, In, All, Any, But, Also, By, Never]
LONG = "abcdefghij0123456789"
# What stands beside the letters and figures among the signs, and some others; none belongs to a plain word.
NO_PLAIN_SIGNS = list("AMZ`{@[/: -_~!.*\"'();")
NO_WORDS = ["", "a" * 21, "1" * 21, "a" * 50] + NO_PLAIN_SIGNS + [
    made for sign in NO_PLAIN_SIGNS for made in (sign + "a", "a" + sign, "a" + sign + "b")
]


def one_of_each():
    """Each sort once, with what is told of it and the list of what it is made of."""
    a, b, c = Word("a"), Begin("b"), Never()
    return [
        (Word("red"), ("word", "red"), []),
        (Begin("se"), ("begin", "se"), []),
        (Row(["red", "sea"]), ("row", ("red", "sea")), []),
        (Near(3, "red", "sea"), ("near", 3, "red", "sea"), []),
        (In(1, a), ("in", 1, ("word", "a")), [a]),
        (All([a, b]), ("all", (("word", "a"), ("begin", "b"))), [a, b]),
        (Any([c, a, a]), ("any", (("never",), ("word", "a"), ("word", "a"))), [c, a, a]),
        (But(a, b), ("but", ("word", "a"), ("begin", "b")), [a, b]),
        (Also(b, a), ("also", ("begin", "b"), ("word", "a")), [b, a]),
        (By(5, c), ("by", 5, ("never",)), [c]),
        (Never(), ("never",), []),
    ]


class Sorts(Checks):
    def test_the_methods_stand_in_each_class(self):
        for kind in [Asking] + SORTS:
            self.listed_methods(kind, ["told", "inner_ones", "with_inner"])

    def test_each_is_an_asking_and_of_its_own_sort_alone(self):
        for kind, (asking, _, _) in zip(SORTS, one_of_each()):
            self.assertIsInstance(asking, Asking)
            for other in SORTS:
                self.assertEqual(isinstance(asking, other), kind == other)
                self.assertEqual(issubclass(kind, other), kind == other)

    def test_told(self):
        for asking, told, _ in one_of_each():
            self.same(asking.told(), told)
            self.same(asking.told(), told)

    def test_inner_ones_are_the_very_askings_in_their_order(self):
        for asking, _, inner in one_of_each():
            self.assertIs(type(asking.inner_ones()), list)
            self.assertEqual(len(asking.inner_ones()), len(inner))
            for one, wanted in zip(asking.inner_ones(), inner):
                self.assertEqual(one.told(), wanted.told())

    def test_askings_within_askings(self):
        asking = But(All([In(0, Any([Word("a"), By(2, Begin("b"))])), Also(Never(), Row(["c", "d"]))]), Near(1, "e", "e"))
        self.same(asking.told(), (
            "but",
            ("all", (
                ("in", 0, ("any", (("word", "a"), ("by", 2, ("begin", "b"))))),
                ("also", ("never",), ("row", ("c", "d"))),
            )),
            ("near", 1, "e", "e"),
        ))

    def test_the_same_asking_may_stand_at_several_places(self):
        a = Word("a")
        self.same(All([a, Also(a, a)]).told(), ("all", (("word", "a"), ("also", ("word", "a"), ("word", "a")))))


class WithInner(Checks):
    def test_others_stand_in_their_place(self):
        news = [Word("x"), Begin("y"), Row(["p", "q"])]
        told = [one.told() for one in news]
        for asking, before, inner in one_of_each():
            other = asking.with_inner(news[:len(inner)])
            self.assertIs(type(other), type(asking))
            self.assertEqual([one.told() for one in other.inner_ones()], told[:len(inner)])
            self.same(asking.told(), before)

    def test_written_out(self):
        x, y, z = Word("x"), Word("y"), Never()
        for asking, some, wanted in [
            (Word("red"), [], ("word", "red")),
            (Begin("se"), [], ("begin", "se")),
            (Row(["red", "sea"]), [], ("row", ("red", "sea"))),
            (Near(3, "red", "sea"), [], ("near", 3, "red", "sea")),
            (Never(), [], ("never",)),
            (In(2, Word("a")), [x], ("in", 2, ("word", "x"))),
            (In(0, Word("a")), [z], ("in", 0, ("never",))),
            (By(999, Word("a")), [x], ("by", 999, ("word", "x"))),
            (By(0, Word("a")), [z], ("by", 0, ("never",))),
            (But(Word("a"), Word("b")), [x, y], ("but", ("word", "x"), ("word", "y"))),
            (Also(Word("a"), Word("b")), [y, x], ("also", ("word", "y"), ("word", "x"))),
            (All([Word("a")]), [x], ("all", (("word", "x"),))),
            (All([Word("a"), Word("b"), Word("c")]), [x, y, x], ("all", (("word", "x"), ("word", "y"), ("word", "x")))),
            (Any([Word("a")]), [y], ("any", (("word", "y"),))),
            (Any([Word("a"), Word("b")]), [x, z], ("any", (("word", "x"), ("never",)))),
        ]:
            self.same(asking.with_inner(some).told(), wanted)

    def test_with_its_own_inner_ones_it_is_told_alike(self):
        for asking, told, _ in one_of_each():
            self.same(asking.with_inner(asking.inner_ones()).told(), told)


class Edges(Checks):
    def test_words_of_one_and_of_twenty_signs(self):
        for word in ["a", "z", "0", "9", LONG, "z" * 20, "9" * 20] + list("abcdefghijklmnopqrstuvwxyz0123456789"):
            self.same(Word(word).told(), ("word", word))
            self.same(Begin(word).told(), ("begin", word))
            self.same(Row([word, "a"]).told(), ("row", (word, "a")))
            self.same(Row(["a", word]).told(), ("row", ("a", word)))
            self.same(Near(1, word, "a").told(), ("near", 1, word, "a"))
            self.same(Near(1, "a", word).told(), ("near", 1, "a", word))

    def test_rows_of_two_to_six(self):
        for many in range(2, 7):
            words = [f"w{number}" for number in range(many)]
            self.same(Row(words).told(), ("row", tuple(words)))
        self.same(Row(["a", "a"]).told(), ("row", ("a", "a")))

    def test_near_of_one_to_twenty(self):
        for far in range(1, 21):
            self.same(Near(far, "b", "a").told(), ("near", far, "b", "a"))

    def test_parts(self):
        for part in (0, 1, 2):
            self.same(In(part, Never()).told(), ("in", part, ("never",)))

    def test_by_of_nought_to_nine_hundred_and_ninety_nine(self):
        for times in [0, 1, 2, 10, 500, 998, 999]:
            self.same(By(times, Never()).told(), ("by", times, ("never",)))

    def test_an_all_and_an_any_of_one_and_of_many(self):
        for many in (1, 2, 7, 39):
            some = [Word(f"w{number}") for number in range(many)]
            told = tuple(("word", f"w{number}") for number in range(many))
            self.same(All(some).told(), ("all", told))
            self.same(Any(some).told(), ("any", told))

    def test_the_same_sort_within_itself(self):
        self.same(In(0, In(1, Never())).told(), ("in", 0, ("in", 1, ("never",))))
        self.same(By(0, By(1, Never())).told(), ("by", 0, ("by", 1, ("never",))))
        self.same(All([All([Never()])]).told(), ("all", (("all", (("never",),)),)))
        self.same(Any([Any([Never()])]).told(), ("any", (("any", (("never",),)),)))

    def test_ten_within_one_another(self):
        asking, told = Word("a"), ("word", "a")
        for number in range(10):
            asking, told = By(number, asking), ("by", number, told)
        self.same(asking.told(), told)


class Refused(Checks):
    def test_what_is_no_plain_word(self):
        for word in NO_WORDS:
            self.refused(NoAsking, Word, word)
            self.refused(NoAsking, Begin, word)
            self.refused(NoAsking, Near, 3, word, "a")
            self.refused(NoAsking, Near, 3, "a", word)
            for many in range(2, 7):
                for at in range(many):
                    words = ["a"] * many
                    words[at] = word
                    self.refused(NoAsking, Row, words)

    def test_rows_of_too_few_and_too_many(self):
        for many in [0, 1, 7, 8, 20]:
            self.refused(NoAsking, Row, ["a"] * many)

    def test_near_of_another_number(self):
        for far in [0, 21, 22, -1, -20, 10 ** 30, -(10 ** 30)]:
            self.refused(NoAsking, Near, far, "a", "b")

    def test_in_of_what_is_no_part(self):
        for part in [-1, 3, -2, -3, 4, 10 ** 30, -(10 ** 30)]:
            self.refused(NoAsking, In, part, Word("a"))

    def test_by_of_another_number(self):
        for times in [-1, 1000, 1001, -999, 10 ** 30, -(10 ** 30)]:
            self.refused(NoAsking, By, times, Word("a"))

    def test_an_all_and_an_any_of_none(self):
        self.refused(NoAsking, All, [])
        self.refused(NoAsking, Any, [])


class Kept(Checks):
    """[2], [12]: none changes once it is made."""

    def test_lists_handed_in_and_changed_afterwards_change_nothing(self):
        words, some, others = ["a", "b", "c"], [Word("a"), Word("b")], [Word("c"), Word("d")]
        row, both, either = Row(words), All(some), Any(some)
        further = [both.with_inner(others), either.with_inner(others)]
        told = [asking.told() for asking in [row, both, either] + further]
        words[0] = "z"
        words.append("d")
        some[0] = Never()
        some.append(Never())
        others.reverse()
        others.append(Never())
        self.same([asking.told() for asking in [row, both, either] + further], told)
        for kept in (words, some, others):
            kept.clear()
        self.same([asking.told() for asking in [row, both, either] + further], told)

    def test_lists_handed_in_stay(self):
        words, a, b = ["c", "a", "b"], Word("b"), Word("a")
        some = [a, b]
        Row(words).told()
        All(some).with_inner(some).told()
        Any(some).with_inner(some).inner_ones().clear()
        self.same(words, ["c", "a", "b"])
        self.assertEqual(len(some), 2)
        self.assertIs(some[0], a)
        self.assertIs(some[1], b)

    def test_lists_told_and_changed_afterwards_change_nothing(self):
        for asking, told, inner in one_of_each():
            asking.inner_ones().append(Word("more"))
            asking.inner_ones().clear()
            if inner:
                asking.inner_ones()[0] = Word("other")
            self.same(asking.told(), told)
            self.assertEqual([one.told() for one in asking.inner_ones()], [one.told() for one in inner])

    def test_another_one_made_of_it_leaves_it_as_it_was(self):
        for asking, told, inner in one_of_each():
            asking.with_inner([Never() for _ in inner])
            self.same(asking.told(), told)
            self.assertEqual([one.told() for one in asking.inner_ones()], [one.told() for one in inner])


if __name__ == "__main__":
    unittest.main()
