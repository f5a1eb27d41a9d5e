"""The desk [28]: each row with its answer, refusals, and that what is refused changes nothing."""

import fractions
import random
import sys
import unittest

from shownranks.best import best_of
from shownranks.books import Book
from shownranks.bringing import brought_asking
from shownranks.cheaper import cheaper
from shownranks.desk import Desk
from shownranks.errors import Lacking, NoAsking, NoMany, NoName, NoRow, NoRule, NoText, NoWeighing, Over, SearchError
from shownranks.lists import list_of
from shownranks.pieces import piece_of
from shownranks.reading import read_asking, show_asking
from shownranks.rulebooks import Rulebook
from shownranks.weighings import Weighing
from helpers import Checks, Slow, chance_texts, many_askings, slow_groups

ENDINGS, SILENT = "ing->:3 s->:2 ies->y:2", "the of"
RULES = Rulebook([("ing", "", 3), ("s", "", 2), ("ies", "y", 2)], ["the", "of"])

# By this weighing the rank of a leaf is (N + 1) / (n + 1) times 2t / (t + 1).
SIMPLE = "weigh 3 1 2 1 0"


def desk_of(rows=(), endings=ENDINGS, silent=SILENT):
    desk = Desk(endings, silent)
    for row in rows:
        desk.say(row)
    return desk


# Six texts: x in a and c (body), b and f (head), e (marks); z in d alone; y in f alone.
SIX = [
    "put a |  | x | ", "put b | X |  | ", "put c |  | x | ", "put d |  |  | z", "put e |  |  | x", "put f | x |  | y",
]


class Rows(Checks):
    """Each row of the interface with its answer."""

    def says(self, desk, *rows):
        for row, wanted in rows:
            self.assertEqual(desk.say(row), wanted, row)

    def test_the_method_stands_in_the_class(self):
        self.listed_methods(Desk, ["say"])

    def test_put_and_out(self):
        self.says(
            desk_of(), ("put a |  | red sea | ", "1"), ("put bcdefghi | The Red Sea | seas | red", "2"), ("put a |  |  | ", "3"),
            ("put a |  |  | ", "4"), ("out a", "5"), ("put a | x | y | z", "6"), ("out bcdefghi", "7"), ("out a", "8"),
            ("ask 9 any(red; x)", ""), ("put a | x | y | z", "9"),
        )

    def test_put_keeps_the_blanks_of_parts_as_they_stand(self):
        desk = desk_of(["put a |   x  y  |  z | w ", "put b | v |    |   "])
        self.says(
            desk, ("piece a 400 all(x; y)", "[x]  [y]"), ("piece a 3 all(x; y)", "[x]"), ("piece a 4 all(x; y)", "[x]  [y]"),
            ("piece a 400 in(body z)", "[z]"), ("piece a 400 in(marks w)", "[w]"), ("piece b 1 v", "[v]"),
        )
        make = desk.newest_make()
        self.same(make.parts("a"), ("  x  y ", " z", "w "))
        self.same(make.parts("b"), ("v", "  ", "  "))

    def test_put_takes_all_signs_but_bars(self):
        parts = "".join(chr(number) for number in range(32, 127) if chr(number) not in ("|", chr(37)))
        desk = desk_of([f"put a | {parts} | ; | -"])
        self.same(desk.newest_make().parts("a"), (parts, ";", "-"))

    def test_weigh_and_rank(self):
        desk = desk_of(SIX)
        self.says(
            desk, (SIMPLE, "ok"), ("rank b x", "7/4"), ("rank e x", "14/9"), ("rank a x", "7/6"), ("rank d x", "none"),
            ("rank f y", "14/3"), ("rank b by(4 x)", "7"), ("rank b by(0 x)", "0"), ("rank b -", "none"),
            ("weigh 0 0 0 0 0", "ok"), ("rank b x", "0"), ("weigh 9 9 9 7/2 1", "ok"), ("weigh 1 1 1 0 1/2", "ok"),
            ("rank b x", "7/6"), ("rank f all(x; y)", "14/3"), ("rank f by(6 y)", "21"),
        )

    def test_its_first_weighing(self):
        desk = desk_of(["put a | red sea | sea | ", "put b |  | red | blue", "put c |  |  | "])
        # As reckoned by hand in test_papers.
        rows = [("rank a sea", "110/37"), ("rank a red", "220/123"), ("rank b red", "440/357"), ("rank c red", "none")]
        self.says(desk, *rows)
        self.says(desk, ("weigh 1 1 1 1 1", "ok"), ("weigh 3 1 2 6/5 3/4", "ok"), *rows)

    def test_ask(self):
        whole = "b 7/4; f 7/4; e 14/9; a 7/6; c 7/6"
        desk = desk_of(SIX + [SIMPLE])
        self.says(
            desk, ("ask 0 x", ""), ("ask 1 x", "b 7/4"), ("ask 2 x", "b 7/4; f 7/4"), ("ask 4 x", "b 7/4; f 7/4; e 14/9; a 7/6"),
            ("ask 5 x", whole), ("ask 6 x", whole), ("ask 40 x", whole), ("ask 41 x", whole), ("ask 1000000 x", whole),
            ("ask " + "9" * 5000 + " x", whole), ("ask 1" + "0" * 4300 + " x", whole), ("ask 5 -", ""), ("ask 5 nowhere", ""),
            ("ask 5 by(12 x)", "b 21; f 21; e 56/3; a 14; c 14"), ("ask 9 any(x; row(a b); in(head near(3 a b)))", whole),
        )
        self.says(desk_of(), ("ask 5 x", ""), ("ask 0 x", ""))

    def test_best(self):
        desk = desk_of(SIX + [SIMPLE])
        self.says(
            desk, ("best 1 1 x", "b 7/4 | 1 5 | 0 2 3 4"), ("best 3 1 x", "b 7/4; f 7/4; e 14/9 | 1 4 5 | 0 2 3"),
            ("best 1 2 x", "b 7/4 | 0 2 | 1"), ("best 40 40 x", "b 7/4; f 7/4; e 14/9; a 7/6; c 7/6 | 0 | "),
            ("best 1 40 nowhere", " |  | 0"), ("best 1 3 -", " |  | 0 1"), ("best 40 6 y", "f 14/3 | 0 | "),
            ("best 2 3 y", "f 14/3 | 1 | 0"), ("best 1 1 but(y; x)", " | 5 | 0 1 2 3 4"),
        )
        self.says(desk_of(), ("best 1 1 x", " |  | "), ("best 40 40 -", " |  | "))

    def test_piece(self):
        desk = desk_of(["put a | The RED, seas | red red | [x] sea", "put b |  |  | "])
        self.says(
            desk, ("piece a 400 all(red; seas)", "[RED], [seas]"), ("piece a 9 all(red; sea)", "[RED], [seas]"),
            ("piece a 8 all(red; sea)", "[red] [red]"), ("piece a 3 sea", "[sea]"), ("piece a 2 sea", "none"),
            ("piece a 400 row(red sea)", "[RED, seas]"), ("piece a 400 all(red; row(red sea))", "[[RED], seas]"),
            ("piece a 400 all(sea; near(1 sea red))", "[RED, [seas]]"),
            ("piece a 400 all(red*; red; re*; s*)", "[[[RED]]], [seas]"), ("piece a 400 all(x; sea)", "[x]] [sea]"),
            ("piece a 400 nowhere", "none"), ("piece a 400 -", "none"), ("piece b 400 red", "none"), ("piece a 1 x", "[x]"),
            ("piece a 400 but(x; red)", "[x]"), ("piece a 400 the", "none"), ("piece a 400 any(red; red; by(2 red))", "[red] [red]"),
            ("piece a 400 near(1 red red)", "[red red]"),
        )

    def test_piece_with_many_finds_in_one_another(self):
        self.says(
            desk_of(["put a | x x x |  | "]), ("piece a 400 near(2 x x)", "[[x [x] x]]"),
            ("piece a 400 all(near(2 x x); x)", "[[[x] [[x]] [x]]]"),
            ("piece a 400 all(row(x x); x*)", "[[x] [[x]] [x]]"),
        )

    def test_groups(self):
        desk = desk_of(["put a | red |  | travel, seas", "put b | red |  | Sea the travel TRAVEL", "put c | x |  | cities of"])
        self.says(
            desk, ("groups red", "sea 2; travel 2"), ("groups any(red; x)", "sea 2; travel 2; city 1"), ("groups x", "city 1"),
            ("groups nowhere", ""), ("groups -", ""), ("groups but(red; x)", "sea 2; travel 2"),
        )
        self.says(desk_of(), ("groups red", ""))

    def test_cheap(self):
        self.says(
            desk_of(), ("cheap a", "a | 0"), ("cheap but(a; by(2 b))", "but(a; b) | 1"), ("cheap all(a; b)", "all(a; b) | 0"),
            ("cheap in(head in(body a))", "- | 1"), ("cheap by(2 by(3 by(4 a)))", "by(24 a) | 2"), ("cheap -", "- | 0"),
            # What is brought: "walking" as "walk", "the" as a Never.
            ("cheap walking", "walk | 0"), ("cheap the", "- | 0"), ("cheap row(the a)", "- | 0"), ("cheap walking*", "walking* | 0"),
            ("cheap also(walking; by(3 walk))", "by(4 walk) | 1"), ("cheap but(seas; sea)", "- | 1"), ("cheap any(a; the)", "a | 2"),
        )
        for asking in many_askings(["a", "b"], 60):
            found, steps = cheaper(asking)
            self.says(desk_of((), "", ""), (f"cheap {show_asking(asking)}", f"{show_asking(found)} | {len(steps)}"))

    def test_read_and_next(self):
        desk = desk_of(SIX + [SIMPLE])
        self.says(
            desk, ("read r 2 x", "ok"), ("next r", "b 7/4; f 7/4"), ("read s 40 x", "ok"), ("next r", "e 14/9; a 7/6"),
            ("next s", "b 7/4; f 7/4; e 14/9; a 7/6; c 7/6"), ("next r", "c 7/6"),
        )
        for name in "rsrr":
            self.refused(Over, desk.say, f"next {name}")
        self.says(desk, ("read abcdefgh 1 -", "ok"))
        self.refused(Over, desk.say, "next abcdefgh")
        self.refused(Over, desk_of(["read r 1 x"]).say, "next r")

    def test_askings_are_brought(self):
        desk = desk_of(["put a | walks |  | cities", "put b | the |  | "])
        for row, wanted in [
            ("ask 1 walking", "ask 1 walk"), ("rank a walked", "rank b walk"), ("piece a 9 walking", "piece a 9 walk"),
            ("groups walks", "groups walk"), ("best 1 1 walks", "best 1 1 walk"),
        ]:
            self.same(desk.say(row), desk.say(wanted))
        self.says(
            desk, ("rank a cities", desk.say("rank a city")), ("rank b the", "none"), ("ask 3 walks*", ""), ("read r 1 walks", "ok"),
            ("next r", desk.say("ask 1 walk")), ("piece a 9 walking", "[walks]"), ("groups walking", "city 1"),
        )

    def test_asked_is_the_newest_make_and_a_reading_keeps_its_own(self):
        desk = desk_of(SIX + [SIMPLE, "read r 2 x"])
        self.says(
            desk, ("out b", "7"), ("put a | x x x x |  | ", "8"), ("weigh 1 1 1 0 0", "ok"), ("ask 1 x", "a 6/5"),
            ("next r", "b 7/4; f 7/4"), ("put g | x |  | ", "9"), ("next r", "e 14/9; a 7/6"), ("out a", "10"),
            ("ask 9 x", "c 6/5; e 6/5; f 6/5; g 6/5"), ("next r", "c 7/6"),
        )
        self.refused(Over, desk.say, "next r")
        self.refused(Lacking, desk.say, "rank b x")

    def test_a_reading_told_anew_begins_with_the_list_of_now(self):
        desk = desk_of(SIX + [SIMPLE, "read r 2 x"])
        self.says(
            desk, ("next r", "b 7/4; f 7/4"), ("read r 1 x", "ok"), ("next r", "b 7/4"), ("out b", "7"), ("read r 3 y", "ok"),
            ("next r", "f 4"),
        )
        self.refused(Over, desk.say, "next r")
        self.says(desk, ("read r 1 y", "ok"), ("next r", "f 4"))

    def test_two_desks_have_nothing_in_common(self):
        one, other = desk_of(["put a | x |  | ", "read r 1 x", "weigh 1 1 1 0 0"]), desk_of()
        self.says(other, ("put b | x |  | ", "1"), ("ask 3 x", "b 11/7"))
        self.refused(Lacking, other.say, "next r")
        self.refused(Lacking, other.say, "rank a x")
        self.says(one, ("ask 3 x", "a 1"))

    def test_asked_the_same_again_the_same_is_told(self):
        desk = desk_of(SIX)
        for row in ["ask 3 x", "best 2 2 any(x; y)", "rank a x", "piece a 3 x", "groups any(x; z)", "cheap all(a; a)"]:
            self.same(desk.say(row), desk.say(row))


class ManyFigures(Checks):
    def test_ranks_of_more_figures_than_python_itself_would_write(self):
        # The word number k has t = k: so many of 9, 1 and 3 are k.
        parts = [[], [], []]
        for number in range(1, 40):
            for part, many in enumerate([number // 9, number % 3, number // 3 % 3]):
                parts[part] += [f"w{number}"] * many
        texts = {"a": tuple(" ".join(words) for words in parts), "b": ("other", "", "")}
        self.assertLessEqual(max(len(part) for part in texts["a"]), 400)
        rise, long = (10 ** 60 - 7, 10 ** 59 + 3), (10 ** 59 + 7, 10 ** 60 - 11)
        desk = desk_of([f"put {name} | " + " | ".join(texts[name]) for name in texts], "", "")
        desk.say("weigh 9 1 3 {}/{} {}/{}".format(*rise, *long))
        asking = "all(" + "; ".join(f"w{number}" for number in range(1, 40)) + ")"
        rank = Slow(Book(Rulebook([], []), texts), (9, 1, 3), rise, long).rank("a", read_asking(asking).told())
        limit = sys.get_int_max_str_digits()
        sys.set_int_max_str_digits(0)
        wanted = f"{rank.numerator}/{rank.denominator}"
        sys.set_int_max_str_digits(limit)
        self.assertGreater(min(len(figures) for figures in wanted.split("/")), 4300)
        self.assertTrue(desk.say(f"rank a {asking}") == wanted)
        self.assertTrue(desk.say(f"ask 1 {asking}") == f"a {wanted}")
        self.assertTrue(desk.say(f"best 1 1 {asking}") == f"a {wanted} | 0 | 1")
        desk.say(f"read r 1 {asking}")
        self.assertTrue(desk.say("next r") == f"a {wanted}")


GOOD_ENDINGS = [
    ("", []), ("ing->:3", [("ing", "", 3)]), ("a->:1", [("a", "", 1)]), ("s->s:2", [("s", "s", 2)]),
    ("abcdefgh->abcdefgh:20", [("abcdefgh", "abcdefgh", 20)]), (ENDINGS, [("ing", "", 3), ("s", "", 2), ("ies", "y", 2)]),
    ("ies->y:10 es->:1", [("ies", "y", 10), ("es", "", 1)]),
]
NO_ENDINGS = [
    " ", "  ", "ing->:3 ", " ing->:3", "ing->:3  s->:2", "ing->:3 s->:2 ", "ing", "ing:3", "ing>:3", "ing-:3", "ing->3", "ing->",
    "ing->:", "->:3", "->", ":", "->:", ":3", "ing->:03", "ing->:00", "ing->:0", "ing->:21", "ing->:020", "ing->:100", "ing->:+3",
    "ing->:-3", "ing->: 3", "ing ->:3", "ing-> :3", "ing->:3.", "ing->:3x", "ing->:x", "ing->:\u0663", "ing->:\u00b2",
    "ing->:" + "9" * 5000, "ing->:1" + "0" * 5000, "ing->:" + "0" * 5000 + "3", "Ing->:3", "ing->Y:3", "ing->1:3", "in1->:3",
    "ing->abcd:3", "s->es:2", "abcdefghi->:3", "i-ng->:3", "ing->y-:3", "ing->->:3", "ing->a->b:3", "ing->:3:3", "ing->y::3",
    "ing->:3,s->:2", "ing->:3;s->:2", "ing->:3\ns->:2", "ing->:3\ts->:2", "ing->:3\n", "\ning->:3", "ing->:3\u00a0s->:2",
    "ing->:3 ing->:3", "ing->:3 s->:2 ing->y:2", "ing->y:3 the", "the of", "ing=>:3", "ing- >:3", "ing\u2192:3", "\u00e9->:3",
    "ing->\u00e9:3", "ing->:3 s->", "[]", "-", "ing->:3|s->:2", "ing->:1 s->:0", "ing->y :3",
]
GOOD_SILENT = [("", []), ("the", ["the"]), ("the of", ["the", "of"]), ("0 1 a1 1a", ["0", "1", "a1", "1a"]), ("x" * 20, ["x" * 20])]
NO_SILENT = [
    " ", "  ", "the ", " the", "the  of", "the of ", "The", "THE", "the-of", "the,of", "the;of", "the, of", "the\tof", "the\nof", "the\n",
    "x" * 21, "the of the", "a a", "\u00e9", "the \u00e9", "\u0663", "the\u00a0of", "-", "*", "a*", "ing->:3", "'the'", "a_b", "~", "\ud800",
]


class Rulebooks(Checks):
    RUNS = ["walking", "king", "seas", "as", "s", "cities", "boxes", "es", "a", "aa", "xabcdefgh", "the", "of", "0", "1", "a1"]

    def alike(self, desk, rules):
        """Runs are silent and are brought by the desk as by the rulebook, seen by the askings that it makes cheap."""
        for run in self.RUNS:
            wanted = show_asking(brought_asking(rules, read_asking(run)))
            self.same(desk.say(f"cheap {run}"), f"{wanted} | 0")

    def test_none_one_and_several(self):
        for endings, rows in GOOD_ENDINGS:
            for silent, words in GOOD_SILENT:
                self.alike(Desk(endings, silent), Rulebook(rows, words))

    def test_texts_that_are_none_such(self):
        for endings in NO_ENDINGS:
            self.refused(NoRule, Desk, endings, "")
            self.refused(NoRule, Desk, endings, "the of")
        for silent in NO_SILENT:
            self.refused(NoRule, Desk, "", silent)
            self.refused(NoRule, Desk, ENDINGS, silent)
        for endings, silent in zip(NO_ENDINGS, NO_SILENT):
            self.refused(NoRule, Desk, endings, silent)


# The desk of the refusals: texts a and b, readings r (one page left) and over (none left).
REFUSING = ["put a | red sea |  | x", "put b | sea |  | ", "read r 1 sea", "next r", "read over 5 sea", "next over"]

NO_ROWS = [
    # No text, or no such row
    None, True, False, 0, 5, b"ask 1 a", ["ask 1 a"], ("ask", "1", "a"), {}, object(), 10 ** 30, [], ("ask 1 a",), len,
    "", " ", "  ", "\n", "a", "x y z", "Ask 1 a", "ASK 1 a", "asks 1 a", "as 1 a", "ask1 a", "say 1 a", "help", "-", "take a",
    "put", "out", "weigh", "ask", "best", "rank", "piece", "groups", "cheap", "read", "next", "nexta", "outa", "groupsred",
    "ask\t1 a", "ask\n1 a", "ask\u00a01 a", "groups\ta", "out\ta", "put\ta | b | c | d", "\nask 1 a", "ask 1\ta", "ask;1 a",
    # Blanks
    " ask 1 a", "  out a", " put a | b | c | d", "ask  1 a", "ask  a", "ask   ", "best  1 1 a", "best 1  1 a", "rank  a", "rank  a red",
    "piece  a 3 red", "piece a  3 red", "read  r 1 red", "read r  1 red", "out  a", "out a ", "out ", "out  ", " out a", "next  r",
    "next r ", "next ", "next  ", " next r", "weigh  1 1 1 1 1", "weigh 1  1 1 1 1", "weigh 1 1 1 1  1", "weigh 1 1 1 1 1 ",
    "weigh ", "weigh 1 1 1 1 ", " weigh 1 1 1 1 1", " groups a", " cheap a",
    # A word too few or too many
    "ask 1", "ask a", "ask red", "ask 1red", "best 1 1", "best 1 a", "best 1 red", "best a", "rank a", "rank red", "piece a 3", "piece a red",
    "piece a", "read r 1", "read r red", "read r", "out a b", "out a a", "next r r", "next r 1", "weigh 1 1 1 1", "weigh 1 1 1",
    "weigh 1 1 1 1 1 1", "groups", "cheap", "ask ", "best ", "best 1 ", "best 1", "rank ", "piece ", "piece a ", "read ", "read r ",
    # put
    "put a", "put a ", "put a |", "put a | ", "put a | b", "put a | b | c", "put a | b | c ", "put a | b | c |", "put a | b | c | d | e",
    "put a | b | c | d |", "put a | b | c | d | ", "put a | | c | d", "put a |  | | d", "put a |  |  |", "put a || b | c", "put a |||",
    "put a ||| ", "put a|b | c | d", "put a| b | c | d", "put ab| b | c | d", "put a |b | c | d", "put a | b| c | d", "put a | b |c | d", "put a | b | c| d",
    "put a | b | c |d", "put a | b | c d", "put a b | c | d | e", "put a  | b | c | d", "put  a | b | c | d", "put  | b | c | d",
    "put | b | c | d", "put   | b | c | d", "put| a | b | c", "put a | b || c | d", "put a | b|b | c | d", "put a|a | b | c | d", "put b | c | d",
    "put a, b | c | d | e", "put a b c | d | e | f", "put a\u00a6 b \u00a6 c \u00a6 d", "put a | b | c\u00a6 d", "put A b | c | d | e",
    "put a |\tb | c | d", "put a |\nb |\nc |\nd", "put\u00a0a | b | c | d", "put a ; b ; c ; d", "put a | b\n| c | d",
] + [f"ask {number} a" for number in [
    "01", "00", "-1", "+1", "1.0", "1.", "a", "one", "1/2", "1e3", "1_0", "\u0663", "\u00b2", "\uff11", "1\n", "0x1", "1,", "0" * 5000, "*",
]] + [f"{row} red" for number in ["01", "-1", "x", "1\t", "1/1", "\u0661", "0" + "9" * 5000] for row in [
    f"best {number} 1", f"best 1 {number}", f"piece a {number}", f"read r {number}", f"read A {number}", f"piece zz {number}",
]] + [f"weigh {numbers}" for number in [
    "01", "-1", "+1", "x", "1.0", "1/2", "", "\u0663", "00",
] for numbers in [f"{number} 1 1 1 1", f"1 {number} 1 1 1", f"1 1 {number} 1 1"]] + [f"weigh {numbers}" for fraction in [
    "2/4", "12/10", "3/1", "1/1", "0/1", "0/5", "1/0", "0/0", "-1", "-1/2", "1/-2", "01", "1/02", "01/2", "1/2/3", "/2", "1/", "/", "1.5", "a", "",
    "1 /2", "1//2", "\u0661/2", "1/\u00b2", "+1/2", "1,5", "100/10", "2/2", "1/2\n",
] for numbers in [f"1 1 1 {fraction} 1", f"1 1 1 1 {fraction}", f"10 1 1 {fraction} 1"]]

NO_ASKINGS = ["", " ", " red", "red ", "  red", "Red", "red sea", "all()", "all(red", "row(red)", "by(1000 red)", "near(0 a b)", "\u00e9", "red\n", "(",
              "(" * 3000, "all(" * 3000, "by(01 red)", "all(red;sea)", "x" * 21, "-*", "*", "in(0 red)", "red|sea", "red; sea", chr(37)]
ASKING_ROWS = ["ask 1 ", "ask 0 ", "best 1 1 ", "best 0 99 ", "rank a ", "rank zz ", "rank A ", "piece a 3 ", "piece zz 0 ", "piece a 401 ",
               "groups ", "cheap ", "read r 1 ", "read A 1 ", "read r 0 ", "read \u00e9 99 "]

NO_NAMES = ["A", "a1", "abcdefghi", "a-b", "\u00e9", "a\n", "a\t", "1", "-", "*", "()", "a,", "\u00a0", "Red", "\ud800", chr(37)]
OTHER_SIGNS = ["\n", "\t", "\r", "\x00", "\x1f", "\x7f", "\u00a0", "\u00e9", "\u0663", "\u2028", "\U0001f600", "\ud800"]

REFUSALS = [(NoRow, row) for row in NO_ROWS] + [(NoAsking, row + ask) for row in ASKING_ROWS for ask in NO_ASKINGS] + [
    (NoName, f"put {name} | b | c | d") for name in NO_NAMES
] + [(NoName, f"put {name} | b\n | c | d") for name in NO_NAMES] + [
    (NoText, f"put a | {b} | {c} | {d}") for sign in OTHER_SIGNS for b, c, d in [(sign, "", ""), ("b", "c" + sign, ""), ("", "", sign + "d")]
] + [(kind, row + " red") for name in NO_NAMES + ["zz", "r", "over"] for kind, row in [
    (Lacking, f"rank {name}"), (Lacking, f"piece {name} 3"), (Lacking, f"piece {name} 0"), (Lacking, f"piece {name} 401"),
]] + [(Lacking, f"{word} {name}") for name in NO_NAMES + ["zz", "a|b"] for word in ["out", "next"]] + [
    (NoName, f"read {name} {number} {ask}") for name in NO_NAMES for number in ["1", "0", "41"] for ask in ["red", "-"]
] + [(NoMany, row) for number in ["0", "41", "42", "100", "9" * 5000] for row in [
    f"best {number} 1 red", f"best 1 {number} red", f"best {number} {number} -", f"read r {number} red", f"read new {number} red",
]] + [(NoMany, f"piece {name} {number} {ask}") for name in "ab" for number in ["0", "401", "402", "9" * 5000] for ask in ["red", "-"]] + [
    (NoWeighing, f"weigh {numbers}") for numbers in [
        "10 1 1 1 1", "1 10 1 1 1", "1 1 10 1 1", "9" * 5000 + " 1 1 1 1", "1 1 1 1 2", "1 1 1 1 5/4", "1 1 1 6/5 3/2", "10 10 10 1 7/3",
        "1 1 1 0 100",
    ]
] + [(Over, "next over"), (Lacking, "out r"), (Lacking, "next a"), (Lacking, "next R")]


def chance_rows(chance, many):
    """Rows of all sorts, nearly all of them right, over a few names."""
    texts = list(chance_texts(chance, 12).values())
    askings = [show_asking(asking) for asking in many_askings(["a", "b", "ab", "walking", "the"], 60)]
    rows = []
    for _ in range(many):
        name, ask, number = chance.choice(["p", "q", "r", "s", "t"]), chance.choice(askings), chance.randrange(0, 9)
        put = f"put {name} | " + " | ".join(chance.choice(texts))
        rows.append(chance.choice([
            put, put, put, f"out {name}", f"ask {number} {ask}", f"best {number} {1 + number // 2} {ask}", f"rank {name} {ask}",
            f"piece {name} {chance.randrange(1, 60)} {ask}", f"groups {ask}", f"cheap {ask}", f"read {name} {1 + number % 3} {ask}",
            f"next {name}", f"next {name}",
            "weigh {} {} {} {} {}".format(*[chance.randrange(10) for _ in "abc"], chance.choice(["0", "6/5", "7"]), chance.choice(["0", "1", "3/4"])),
        ]))
    return rows


def told(desk, row):
    """The answer to a row, or the class that refuses it."""
    try:
        return desk.say(row)
    except SearchError as refusal:
        return type(refusal)


class Refused(Checks):
    def test_each_with_just_its_class(self):
        desk = desk_of(REFUSING)
        for kind, row in REFUSALS:
            self.assertIs(told(desk, row), kind, repr(row)[:200])

    def test_what_is_refused_changes_nothing(self):
        desk = desk_of(REFUSING)
        seen = ["ask 9 any(red; sea)", "best 2 1 sea", "rank a red", "piece a 40 any(red; sea)", "groups sea", "cheap all(sea; sea)"]
        before = [desk.say(row) for row in seen]
        for kind, row in REFUSALS:
            self.refused(kind, desk.say, row)
        self.same([desk.say(row) for row in seen], before)
        self.same(desk.say("next r"), desk_of(REFUSING).say("next r"))
        self.refused(Over, desk.say, "next r")
        self.refused(Lacking, desk.say, "next new")
        self.same(desk.say("put c |  |  | "), "3")

    def test_a_name_that_stands_nowhere_on_a_desk_without_texts(self):
        desk = desk_of()
        for row in ["out a", "rank a -", "piece a 3 -", "piece a 0 -", "next a"]:
            self.refused(Lacking, desk.say, row)
        self.same(desk.say("put a |  |  | "), "1")

    def test_refusals_between_other_rows(self):
        chance = random.Random(32)
        for _ in range(6):
            one, other = desk_of(), desk_of()
            # NoRow, NoAsking, NoText and NoWeighing are due whatever the desk has; names q to t are looked at by rows of chance.
            always = [(kind, row) for kind, row in REFUSALS if kind in (NoRow, NoAsking, NoText, NoWeighing, NoName)]
            for row in chance_rows(chance, 60):
                for kind, wrong in chance.sample(always, 5):
                    self.refused(kind, one.say, wrong)
                self.same(told(one, row), told(other, row))


class Model:
    """What [28] says of each row, over a dict of texts, a list of pages for each reading, and the book of all texts."""

    def __init__(self):
        self.texts, self.number, self.readings, self.weighing = {}, 0, {}, ((3, 1, 2), (6, 5), (3, 4))

    def shown(self, rank):
        return str(fractions.Fraction(*rank))

    def shown_list(self, rows):
        return "; ".join(f"{name} {self.shown(rank)}" for name, rank in rows)

    def say(self, row):
        first, _, rest = row.partition(" ")
        if first == "put":
            name, *parts = rest.split(" | ")
            self.texts, self.number = {**self.texts, name: tuple(parts)}, self.number + 1
            return str(self.number)
        if first == "out":
            if rest not in self.texts:
                return Lacking
            self.texts, self.number = {name: self.texts[name] for name in self.texts if name != rest}, self.number + 1
            return str(self.number)
        if first == "weigh":
            pairs = [fractions.Fraction(word).as_integer_ratio() for word in rest.split(" ")]
            self.weighing = (tuple(pair[0] for pair in pairs[:3]), pairs[3], pairs[4])
            return "ok"
        if first == "next":
            if rest not in self.readings:
                return Lacking
            return self.readings[rest].pop(0) if self.readings[rest] else Over
        words = {"ask": 1, "best": 2, "rank": 1, "piece": 2, "groups": 0, "cheap": 0, "read": 2}[first]
        *words, ask = rest.split(" ", words)
        return self.asked(first, words, brought_asking(RULES, read_asking(ask)))

    def asked(self, first, words, asking):
        book, weighing = Book(RULES, self.texts), Weighing(*self.weighing)
        listed = list_of(book, weighing, asking)
        if first == "ask":
            return self.shown_list(listed[:int(words[0])])
        if first == "best":
            if words[0] == "0":
                return NoMany
            best = best_of(book, weighing, asking, int(words[0]), int(words[1]))
            return " | ".join([self.shown_list(best[0])] + [" ".join(str(number) for number, _ in some) for some in best[1:]])
        if first == "groups":
            return "; ".join(f"{word} {many}" for word, many in slow_groups(book, asking.told()))
        if first == "cheap":
            found, steps = cheaper(asking)
            return f"{show_asking(found)} | {len(steps)}"
        if first == "read":
            many = int(words[1])
            self.readings[words[0]] = [self.shown_list(listed[at:at + many]) for at in range(0, len(listed), many)]
            return "ok"
        if words[0] not in self.texts:
            return Lacking
        if first == "rank":
            return self.shown(dict(listed)[words[0]]) if words[0] in dict(listed) else "none"
        return self.bracketed(piece_of(book, words[0], asking, int(words[1])))

    def bracketed(self, piece):
        if piece is None:
            return "none"
        _, start, _, signs, finds = piece
        marks = [(end - start, 0, "]") for _, _, end, _ in finds] + [(begin - start, 1, "[") for _, begin, _, _ in finds]
        for at, _, mark in sorted(marks, reverse=True):
            signs = signs[:at] + mark + signs[at:]
        return signs


class AsTheWordsSay(Checks):
    def test_many_rows(self):
        chance = random.Random(33)
        seen = set()
        for _ in range(12):
            desk, model = desk_of(), Model()
            for row in chance_rows(chance, 90):
                wanted = model.say(row)
                self.assertEqual(told(desk, row), wanted, row)
                seen.add((row.split(" ")[0], wanted not in ("", "none") and not isinstance(wanted, type)))
        self.assertGreaterEqual(len(seen), 16)


if __name__ == "__main__":
    unittest.main()
