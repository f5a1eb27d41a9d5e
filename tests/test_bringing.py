"""Bringing askings [15]: words as a rulebook makes them of runs, silent ones to Nevers."""

import unittest

from shownranks.askings import All, Also, Any, Begin, But, By, In, Near, Never, Row, Word
from shownranks.bringing import brought_asking
from shownranks.rulebooks import Rulebook
from helpers import Checks, each_sort_ten_deep, many_askings

RULES = Rulebook([("ing", "", 3), ("s", "", 2), ("ies", "y", 2)], ["the", "of", "yes", "1"])
NEVER = ("never",)
# "thes" is brought to a silent word, and "walkings" loses one ending alone.
WORDS = ["walking", "seas", "cities", "thes", "the", "of", "yes", "1", "sea", "is", "ing", "walkings", "12", "1s", "11s"]


def slow_brought(rules, told):
    """[15] over what is told of an asking."""
    sort = told[0]
    if sort in ("word", "row", "near"):
        words = told[1] if sort == "row" else [part for part in told[1:] if isinstance(part, str)]
        if [word for word in words if rules.is_silent(word)]:
            return NEVER
        brought = tuple(rules.brought(word) for word in words)
        return {"word": ("word",) + brought, "row": ("row", brought), "near": told[:2] + brought}[sort]
    if sort in ("begin", "never"):
        return told
    if sort in ("all", "any"):
        return (sort, tuple(slow_brought(rules, one) for one in told[1]))
    return tuple(slow_brought(rules, part) if isinstance(part, tuple) else part for part in told)


class Leaves(Checks):
    def brought(self, asking, wanted):
        self.same(brought_asking(RULES, asking).told(), wanted)

    def test_a_word_is_brought_as_a_run_is(self):
        for word, wanted in [
            ("seas", "sea"), ("sea", "sea"), ("walking", "walk"), ("cities", "city"), ("walkings", "walking"), ("is", "is"),
            ("ing", "ing"), ("king", "king"), ("as", "as"), ("ass", "as"), ("ties", "tie"), ("bties", "bty"), ("aies", "aie"),
            ("12", "12"), ("11s", "11"), ("1s", "1s"), ("a" * 19 + "s", "a" * 19), ("0", "0"),
        ]:
            self.brought(Word(word), ("word", wanted))

    def test_each_word_of_a_row(self):
        self.brought(Row(["seas", "walking"]), ("row", ("sea", "walk")))
        self.brought(Row(["cities", "sea", "seas", "seas", "a", "walks"]), ("row", ("city", "sea", "sea", "sea", "a", "walk")))

    def test_both_words_of_a_near(self):
        self.brought(Near(7, "seas", "cities"), ("near", 7, "sea", "city"))
        self.brought(Near(20, "sea", "walking"), ("near", 20, "sea", "walk"))
        self.brought(Near(1, "seas", "sea"), ("near", 1, "sea", "sea"))

    def test_a_leaf_with_a_silent_word_becomes_a_never(self):
        for word in ["the", "of", "yes", "1"]:
            self.brought(Word(word), NEVER)
            self.brought(Near(3, word, "seas"), NEVER)
            self.brought(Near(3, "seas", word), NEVER)
            self.brought(Near(3, word, word), NEVER)
            for many in range(2, 7):
                for at in range(many):
                    words = ["seas"] * many
                    words[at] = word
                    self.brought(Row(words), NEVER)

    def test_a_word_that_is_silent_only_when_brought_stays(self):
        for asking, wanted in [
            (Word("thes"), ("word", "the")), (Word("ofing"), ("word", "ofing")), (Word("yess"), ("word", "yes")),
            (Row(["thes", "yess"]), ("row", ("the", "yes"))), (Near(2, "thes", "seas"), ("near", 2, "the", "sea")),
            (Near(2, "seas", "yess"), ("near", 2, "sea", "yes")),
        ]:
            self.brought(asking, wanted)

    def test_a_word_that_is_silent_as_it_stands_though_not_when_brought(self):
        self.same(RULES.brought("yes"), "ye")
        self.brought(Word("yes"), NEVER)
        self.brought(Word("ye"), ("word", "ye"))

    def test_a_begin_stays(self):
        for start in ["seas", "walking", "cities", "the", "of", "1", "yes", "thes"]:
            self.brought(Begin(start), ("begin", start))

    def test_a_never_stays(self):
        self.brought(Never(), NEVER)

    def test_another_rulebook(self):
        rules = Rulebook([("es", "s", 1), ("ab", "ba", 1)], ["sea"])
        self.same(brought_asking(rules, Row(["cates", "aab"])).told(), ("row", ("cats", "aba")))
        self.same(brought_asking(rules, Row(["the", "sea"])).told(), NEVER)
        plain = Rulebook([], [])
        for word in WORDS:
            self.same(brought_asking(plain, Word(word)).told(), ("word", word))


class Within(Checks):
    def test_each_sort_that_has_parts(self):
        a, b, c = Word("seas"), Word("the"), Begin("seas")
        sea, begin = ("word", "sea"), ("begin", "seas")
        for asking, wanted in [
            (In(0, a), ("in", 0, sea)), (In(2, b), ("in", 2, NEVER)), (In(1, c), ("in", 1, begin)),
            (By(0, a), ("by", 0, sea)), (By(999, b), ("by", 999, NEVER)), (By(5, c), ("by", 5, begin)),
            (All([a]), ("all", (sea,))), (All([b]), ("all", (NEVER,))), (All([a, b, c]), ("all", (sea, NEVER, begin))),
            (Any([b]), ("any", (NEVER,))), (Any([c, b, a, a]), ("any", (begin, NEVER, sea, sea))),
            (But(a, b), ("but", sea, NEVER)), (But(b, a), ("but", NEVER, sea)), (Also(a, b), ("also", sea, NEVER)),
            (Also(b, c), ("also", NEVER, begin)),
        ]:
            self.same(brought_asking(RULES, asking).told(), wanted)

    def test_deep_within(self):
        asking = But(
            All([In(0, Any([Word("seas"), By(2, Begin("seas"))])), Also(Row(["of", "seas"]), Row(["walking", "seas"]))]),
            Any([Near(1, "cities", "the"), Near(1, "cities", "seas")]),
        )
        self.same(brought_asking(RULES, asking).told(), (
            "but",
            ("all", (
                ("in", 0, ("any", (("word", "sea"), ("by", 2, ("begin", "seas"))))),
                ("also", NEVER, ("row", ("walk", "sea"))),
            )),
            ("any", (NEVER, ("near", 1, "city", "sea"))),
        ))

    def test_many_askings_as_the_words_say(self):
        for asking in many_askings(WORDS, 800) + each_sort_ten_deep():
            self.same(brought_asking(RULES, asking).told(), slow_brought(RULES, asking.told()))


class Kept(Checks):
    def test_the_asking_that_was_handed_in_stays(self):
        for asking in many_askings(WORDS, 200):
            told = asking.told()
            first = brought_asking(RULES, asking).told()
            self.same(asking.told(), told)
            self.same(brought_asking(RULES, asking).told(), first)

    def test_told_lists_changed_afterwards_change_nothing(self):
        asking = All([Word("seas"), Any([Word("the")])])
        brought = brought_asking(RULES, asking)
        brought.inner_ones().clear()
        asking.inner_ones().reverse()
        self.same(brought.told(), ("all", (("word", "sea"), ("any", (NEVER,)))))
        self.same(asking.told(), ("all", (("word", "seas"), ("any", (("word", "the"),)))))


if __name__ == "__main__":
    unittest.main()
