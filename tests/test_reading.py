"""Reading and showing askings [13]: how each sort is written, and that nothing else is read."""

import random
import unittest

from shownranks.askings import All, Also, Any, Begin, But, By, In, Near, Never, Row, Word
from shownranks.errors import NoAsking
from shownranks.paths import many_nodes
from shownranks.reading import read_asking, show_asking
from helpers import Checks, each_sort_ten_deep, many_askings

LONG = "abcdefghij0123456789"
LIKE_SORTS = ["all", "any", "row", "near", "in", "but", "also", "by", "never", "head", "body", "marks", "word", "begin"]
WORDS = LIKE_SORTS + ["a", "z", "0", "9", "00", "007", "12", "3", LONG, "z" * 20, "9" * 20, "x1", "1x"]

# Each sort, as [13] shows it.
WRITTEN = [
    (Word("sea"), "sea"),
    (Begin("sea"), "sea*"),
    (Row(["a", "b", "c"]), "row(a b c)"),
    (Row(["a", "b"]), "row(a b)"),
    (Row(["a", "b", "c", "d", "e", "f"]), "row(a b c d e f)"),
    (Near(3, "a", "b"), "near(3 a b)"),
    (In(0, Word("a")), "in(head a)"),
    (In(1, Word("a")), "in(body a)"),
    (In(2, Word("a")), "in(marks a)"),
    (All([Word("a"), Word("b")]), "all(a; b)"),
    (All([Word("a")]), "all(a)"),
    (Any([Word("a"), Word("b")]), "any(a; b)"),
    (Any([Word("a"), Begin("b"), Never()]), "any(a; b*; -)"),
    (But(Word("a"), Word("b")), "but(a; b)"),
    (Also(Word("a"), Word("b")), "also(a; b)"),
    (By(3, Word("a")), "by(3 a)"),
    (Never(), "-"),
]

EDGES = [
    (Near(1, "a", "b"), "near(1 a b)"), (Near(20, "a", "b"), "near(20 a b)"), (Near(10, "a", "a"), "near(10 a a)"),
    (By(0, Word("a")), "by(0 a)"), (By(1, Word("a")), "by(1 a)"), (By(10, Word("a")), "by(10 a)"),
    (By(100, Word("a")), "by(100 a)"), (By(999, Word("a")), "by(999 a)"), (By(3, Word("3")), "by(3 3)"),
    (By(0, Word("0")), "by(0 0)"), (By(7, Word("007")), "by(7 007)"), (Near(3, "3", "03"), "near(3 3 03)"),
    (In(0, Word("head")), "in(head head)"), (In(2, Begin("body")), "in(marks body*)"), (In(1, Word("in")), "in(body in)"),
    (By(2, Word("by")), "by(2 by)"), (By(2, By(3, Word("by"))), "by(2 by(3 by))"), (Row(["row", "row"]), "row(row row)"),
    (Row(["1", "2", "3"]), "row(1 2 3)"), (Near(2, "near", "near"), "near(2 near near)"),
    (All([Word("all"), Begin("all"), All([Word("all")])]), "all(all; all*; all(all))"),
    (But(Word("but"), But(Never(), Word("but"))), "but(but; but(-; but))"), (By(1, Never()), "by(1 -)"),
    (In(0, Never()), "in(head -)"), (Row([LONG, LONG]), f"row({LONG} {LONG})"), (Near(5, LONG, "a"), f"near(5 {LONG} a)"),
    (
        But(All([In(0, Any([Word("a"), By(2, Begin("b"))])), Also(Never(), Row(["c", "d"]))]), Near(1, "e", "e")),
        "but(all(in(head any(a; by(2 b*))); also(-; row(c d))); near(1 e e))",
    ),
]

GOOD = [text for _, text in WRITTEN + EDGES]

# Blanks too many and too few, ahead, behind, behind a bracket, ahead of it, ahead of and behind `;`.
BLANKS = [
    " ", "  ", " a", "a ", "a *", " a*", "a* ", "a b", "- ", " -", " row(a b)", "row (a b)", "row( a b)", "row(a  b)",
    "row(a b )", "row(a b) ", "row(ab)", " near(3 a b)", "near (3 a b)", "near( 3 a b)", "near(3  a b)", "near(3 a  b)",
    "near(3 a b )", "near(3 a b) ", "near(3a b)", "near(3ab)", "near(3 ab)", "in (head a)", "in( head a)", "in(head  a)",
    "in(head a )", "in(heada)", "in(head a) ", " in(head a)", "all (a)", "all( a)", "all(a )", "all(a) ", " all(a)",
    "all(a;b)", "all(a ;b)", "all(a ; b)", "all(a;  b)", "all(a; b )", "all( a; b)", "all(a b)", "any(a;b)", "any(a ; b)",
    "any(a;  b)", "any( a; b)", "any(a; b )", "any(a b)", "but(a;b)", "but(a ; b)", "but(a;  b)", "but( a; b)",
    "but(a; b )", "but(a b)", "also(a;b)", "also(a ; b)", "also(a;  b)", "also( a; b)", "also(a; b )", "also(a b)",
    "by (3 a)", "by( 3 a)", "by(3  a)", "by(3 a )", "by(3a)", "by(3 a) ", " by(3 a)", "all(a; b;c)", "all(a; b;  c)",
    "by(3 by(3  a))", "all(all(a); all( a))", "all(- ; a)", "all(a* ; b)", "all(a;b*)", "row(a b\u00a0c)",
]

# A bracket, a `;` or a `*` missing, doubled or in another's place.
MARKS = [
    "(", ")", "()", "(a)", "((a))", "a(", "a)", "a()", "(a", ")a", "a;", ";a", "; a", "a; ", "a; b", ";", "; ", "*", "**", "*a",
    "a**", "a*b", "a*b*", "*a*", "-*", "row(a b", "row(a b))", "row((a b))", "row((a b)", "row)a b(", "rowa b)", "row a b",
    "row[a b]", "row{a b}", "row(a b]", "row(a; b)", "row(a b*)", "row(a* b)", "row(a b)*", "row*(a b)", "row(a, b)",
    "row(a b)(c d)", "row(row(a b) c)", "row(a -)", "row(- a)", "near(3 a b", "near(3; a; b)", "near(3 a; b)", "near(3, a, b)",
    "near(3 a* b)", "near(3 a b*)", "near(3* a b)", "near(3 a b)*", "near(3 a b))", "near(3 (a) b)", "near(3 - a)",
    "near(a 3 b)", "near(a b 3)", "in(head a", "in(head; a)", "in(head* a)", "in(head a)*", "in(head a))", "in(head (a))",
    "in(head(a))", "in(a head)", "in(head a; b)", "in(head)", "in(head )", "in()", "in( )", "in( a)", "in(a)", "all(a; b",
    "all(a; b))", "all((a; b))", "all((a); b)", "all(a;; b)", "all(a; ; b)", "all(a;; ;b)", "all(; a)", "all(a; )", "all(a;)",
    "all(;a)", "all(;)", "all(; )", "all(a: b)", "all(a, b)", "all(a* b)", "all(a; b)*", "all*(a; b)", "all(a; b; )",
    "any(a; b", "any(a; b))", "any(a;; b)", "any(a; ; b)", "any(; a)", "any(a; )", "any(a, b)", "any(a; b)*", "any*(a; b)",
    "but(a; b", "but(a; b))", "but(a;; b)", "but(a; ; b)", "but(; b)", "but(a; )", "but(;)", "but(; )", "but()", "but(a, b)",
    "but(a; b)*", "also(a; b", "also(a; b))", "also(a;; b)", "also(; b)", "also(a; )", "also()", "also(; )", "also(a, b)",
    "also(a; b)*", "by(3 a", "by(3; a)", "by(3 a))", "by(3 (a))", "by(3(a))", "by(3 a; b)", "by(3 a)*", "by*(3 a)", "by(3)",
    "by(3 )", "by()", "by( )", "by(a)", "by(a 3)", "all(a b; c)", "all(all(a; b)", "all(a; any(b; c)", "all(a; any(b; c)))",
    "all(a); b)", "all(a)(b)", "all(a)b", "aall(b)", "all(a)all(b)", "all(a) all(b)", "all(a); all(b)", "word(a)", "begin(a)",
    "never()", "-()", "All(a)", "ALL(a)", "ALl(a; b)", "alll(a)", "al(a)", "1(a)", "nearby(3 a b)",
]

# Numbers.
NUMBERS = [
    "by(00 a)", "by(01 a)", "by(001 a)", "by(010 a)", "by(0999 a)", "by(000 a)", "near(01 a b)", "near(00 a b)",
    "near(020 a b)", "by(+3 a)", "by(-3 a)", "by(-0 a)", "by(--3 a)", "near(+3 a b)", "near(-3 a b)", "by(3. a)", "by(3.0 a)",
    "by(1e2 a)", "by(1_0 a)", "by(0x1 a)", "by(3x a)", "by(x3 a)", "by(x a)", "by(three a)", "near(3x a b)", "near(x a b)",
    "by( a)", "near( a b)", "near(a b)", "by(1000 a)", "by(1001 a)", "by(9999 a)", "near(0 a b)", "near(21 a b)",
    "near(22 a b)", "near(100 a b)", "near(999 a b)", "near(1000 a b)", "by(1,0 a)", "by(1/2 a)", "by(3' a)",
    "by(\u0663 a)", "by(\u00b2 a)", "by(\uff13 a)", "near(\u0663 a b)", "by(3\u0660 a)",
]
NUMBERS += [f"by({figure * many} a)" for figure in "129" for many in (4, 5, 20, 400, 4299, 4300, 4301, 5000, 100000)]
NUMBERS += [f"near({figure * many} a b)" for figure in "129" for many in (3, 4, 20, 4300, 4301, 5000, 100000)]
NUMBERS += ["by(" + "0" * 5000 + " a)", "by(" + "0" * 5000 + "3 a)", "near(" + "0" * 5000 + "3 a b)", "by(-" + "9" * 5000 + " a)"]

PARTS = [f"in({part} a)" for part in [
    "Head", "HEAD", "heads", "hea", "h", "mark", "marks*", "bodies", "0", "1", "2", "3", "all", "", "head body", "tail", "-",
    "head;", "headbody", "in", "head-", "1head",
]]

MANY = [
    "row(a)", "row()", "row(a b c d e f g)", "row(a b c d e f g h)", "row(" + " ".join("a" * 500) + ")", "near(3)", "near(3 a)",
    "near(3 a b c)", "near(3 a b c d)", "near()", "all()", "any()", "but(a)", "but(a; b; c)", "but(a; b; c; d)", "also(a)",
    "also(a; b; c)", "also(a; b; c; d)", "by(3 a b)", "by(3 3 a)", "in(head head a)", "by(3 a; a)", "all(all())", "any(a; any())",
    "all(a; all(); b)", "in(head all())", "by(3 any())", "but(row(a); b)", "also(a; but(b))",
]

WRONG_WORDS = ["a" * 21, "1" * 21, LONG + "a", "a" * 22, "a" * 5000, "A", "Sea", "seA", "sEa", "Z", "aB", "sea-side", "a_b", "_",
               "a.b", "a'b", "a,b", "a&b", "a|b", "a+b", "a=b", "a/b", "~", "`", "{", "@", "[", ":", "/", "!", "\"a\"", "'a'"]
# Signs that texts of [2] do not have, letters and figures of other scripts among them.
OTHER_SIGNS = ["\n", "\t", "\r", "\x00", "\x0b", "\x1f", "\x7f", "\u00a0", "\u00e9", "\u00aa", "\u00b2", "\u0663", "\u2028",
               "\uff41", "\uff08", "\uff1b", "\u0430", "\U0001f600", "\ud800", "\ufeff"]

BEHIND = [text + behind for text in ["a", "a*", "-", "row(a b)", "near(3 a b)", "in(head a)", "all(a)", "any(a; b)", "but(a; b)",
                                     "also(a; b)", "by(3 a)"]
          for behind in [" b", "; b", ")", "(", "-", "*a", "(b)", ";", " ", " -", "\n", ";b", ", b", "all(b)"]]

DASHES = ["--", "-a", "a-", "-a-", "a-b", "-1", "1-", "-*", "*-", "-(", "-)", "(-)", "-()", "- -", "---", "row(-)", "row(- -)",
          "near(3 - -)", "all(--)", "all(-a)", "all(a-)", "in(head --)", "in(- a)", "by(- a)", "by(3 -a)", "by(3 a-)", "but(-; --)",
          "also(--; -)", "-all(a)", "all-(a)", "-; -"]

BRACKETS = [
    "(" * 5000, ")" * 5000, "(" * 5000 + ")" * 5000, "(" * 5000 + "a" + ")" * 5000, "()" * 5000, ")(" * 5000, "a" + "(" * 5000,
    "((((((((((a))))))))))", "all(" * 5000, "all(" * 5000 + "a", "all(" * 5000 + "a" + ")" * 4999,
    "all(" * 5000 + "a" + ")" * 5000, "all(" * 5000 + "a" + ")" * 5001, "all(" * 5000 + ")" * 5000, "any(" * 50000,
    "any(a; " * 5000, "any(a; " * 5000 + "b" + ")" * 5000, "but(" * 5000 + "a" + "; b)" * 5000, "but(a; " * 5000 + "b" + ")" * 5000,
    "also(a; " * 5000, "also(" * 5000 + "a" + "; b)" * 4999, "in(head " * 5000, "in(head " * 5000 + "a" + ")" * 5000,
    "by(3 " * 5000, "by(3 " * 5000 + "a" + ")" * 5000, "by(3 " * 3000 + "-" + ")" * 3000, "row(" * 5000, "near(" * 5000,
    "row(" * 5000 + "a b" + ")" * 5000, "near(3 " * 5000 + "a b" + ")" * 5000, "all(in(head by(1 any(" * 2000,
    "all(in(head by(1 any(" * 2000 + "a" + "))))" * 2000, "all(a; " * 300 + "row(a b" + ")" * 301 + ")",
    "all(" + "(" * 5000 + ")", "all(a; " + "(" * 5000 + ")" * 5000 + ")", "all(" * 1000 + "a" + ")" * 999,
    "all(" + "row(a b); " * 5000 + "all(" * 5000 + "a" + ")" * 5001,
]


class Written(Checks):
    def test_each_sort_as_it_is_written(self):
        for asking, text in WRITTEN + EDGES:
            self.same(show_asking(asking), text)

    def test_each_sort_as_it_is_read(self):
        for asking, text in WRITTEN + EDGES:
            self.same(read_asking(text).told(), asking.told())
            self.assertIs(type(read_asking(text)), type(asking))

    def test_words_that_look_like_something_else(self):
        for word in WORDS:
            for asking, text in [
                (Word(word), word), (Begin(word), word + "*"), (Row([word, word]), f"row({word} {word})"),
                (Near(3, word, word), f"near(3 {word} {word})"), (In(1, Word(word)), f"in(body {word})"),
                (In(1, Begin(word)), f"in(body {word}*)"), (By(12, Word(word)), f"by(12 {word})"),
                (All([Word(word), Begin(word)]), f"all({word}; {word}*)"), (Any([Begin(word)]), f"any({word}*)"),
                (But(Word(word), Word(word)), f"but({word}; {word})"), (Also(Never(), Word(word)), f"also(-; {word})"),
            ]:
                self.same(show_asking(asking), text)
                self.same(read_asking(text).told(), asking.told())

    def test_numbers_from_bound_to_bound(self):
        for far in range(1, 21):
            self.same(show_asking(Near(far, "a", "b")), f"near({far} a b)")
            self.same(read_asking(f"near({far} a b)").told(), ("near", far, "a", "b"))
        for times in range(1000):
            self.same(show_asking(By(times, Never())), f"by({times} -)")
            self.same(read_asking(f"by({times} -)").told(), ("by", times, ("never",)))

    def test_many_parts(self):
        words = [f"w{number}" for number in range(39)]
        for kind, sort in [(All, "all"), (Any, "any")]:
            text = f"{sort}({'; '.join(words)})"
            self.same(show_asking(kind([Word(word) for word in words])), text)
            self.same(read_asking(text).told(), (sort, tuple(("word", word) for word in words)))


class ThereAndBack(Checks):
    def test_ten_within_one_another(self):
        for asking in each_sort_ten_deep():
            self.same(read_asking(show_asking(asking)).told(), asking.told())

    def test_askings_up_to_forty_nodes(self):
        sizes = []
        for asking in many_askings(WORDS, 1500):
            text = show_asking(asking)
            self.same(read_asking(text).told(), asking.told())
            self.same(show_asking(read_asking(text)), text)
            sizes.append(many_nodes(asking))
        self.assertGreater(max(sizes), 30)
        self.assertLessEqual(max(sizes), 40)

    def test_forty_nodes(self):
        asking = All([Any([Word("a"), Row(["b", "c"]), Never()]) for _ in range(9)] + [But(Begin("d"), Near(2, "e", "f"))])
        self.same(many_nodes(asking), 40)
        self.same(read_asking(show_asking(asking)).told(), asking.told())

    def test_many_brackets_one_behind_another(self):
        for many in (39, 150):
            text = "all(" + "; ".join(["row(a b)"] * many) + ")"
            self.same(read_asking(text).told(), ("all", (("row", ("a", "b")),) * many))
            self.same(show_asking(read_asking(text)), text)

    def test_somewhat_deeper_than_promised(self):
        text = "by(1 " * 39 + "a" + ")" * 39
        self.same(show_asking(read_asking(text)), text)


class Refused(Checks):
    def all_refused(self, texts):
        for text in texts:
            try:
                told = read_asking(text).told()
            except NoAsking:
                continue
            self.fail(f"{text[:60]!r} is read as {told!r}")

    def test_the_text_without_signs(self):
        self.all_refused([""])

    def test_blanks(self):
        self.all_refused(BLANKS)

    def test_blanks_put_in_or_left_out_anywhere(self):
        for text in GOOD:
            self.all_refused([text[:at] + " " + text[at:] for at in range(len(text) + 1) if not self.splits_a_word(text, at)])
            self.all_refused([text[:at] + text[at + 1:] for at, sign in enumerate(text) if sign == " " and "row" not in text])
            self.all_refused([text.replace(" ", put) for put in ["  ", "", "\t", "\n", "_"] if " " in text and "row" not in text])

    @staticmethod
    def splits_a_word(text, at):
        """Whether a blank there makes two plain words of one, as may be in a row."""
        return "row" in text and 0 < at < len(text) and text[at - 1].isalnum() and text[at].isalnum()

    def test_brackets_and_marks(self):
        self.all_refused(MARKS)

    def test_each_mark_left_out_doubled_or_changed(self):
        for text in GOOD:
            for at, sign in enumerate(text):
                if sign in "();":
                    self.all_refused([text[:at] + text[at + 1:], text[:at] + sign + text[at:]])
                    self.all_refused([text[:at] + put + text[at + 1:] for put in "();*,:[]{}.-" if put != sign])
                if sign == "*":
                    self.all_refused([text[:at] + put + text[at + 1:] for put in ["**", "(", ")", ";", "* ", " *", "+", "?", "-"]])

    def test_numbers(self):
        self.all_refused(NUMBERS)

    def test_parts(self):
        self.all_refused(PARTS)

    def test_too_many_and_too_few(self):
        self.all_refused(MANY)

    def test_words(self):
        for word in WRONG_WORDS:
            self.all_refused([
                word, word + "*", f"row({word} a)", f"row(a {word})", f"row(a b {word})", f"near(3 {word} a)", f"near(3 a {word})",
                f"in(head {word})", f"all({word})", f"all(a; {word})", f"any({word}; a)", f"but({word}; a)", f"but(a; {word})",
                f"also({word}; a)", f"also(a; {word})", f"by(3 {word})", f"by(3 {word}*)",
            ])

    def test_something_behind(self):
        self.all_refused(BEHIND)

    def test_something_beside_a_never(self):
        self.all_refused(DASHES)

    def test_other_signs(self):
        for sign in OTHER_SIGNS:
            self.all_refused([sign, sign * 3])
            for text in GOOD:
                self.all_refused([text[:at] + sign + text[at:] for at in range(len(text) + 1)])
                self.all_refused([text[:at] + sign + text[at + 1:] for at in range(len(text))])

    def test_very_many_brackets(self):
        self.all_refused(BRACKETS)

    def test_what_is_read_at_all_is_written_just_so(self):
        chance = random.Random(13)
        signs = "abz019 ;*()-" + "AZ_,\n"
        read = 0
        for number in range(30000):
            text = chance.choice(GOOD)
            for _ in range(chance.randrange(1, 4)):
                at = chance.randrange(len(text) + 1)
                text = text[:at] + chance.choice(["", chance.choice(signs)]) + text[at + chance.randrange(2):]
            try:
                asking = read_asking(text)
            except NoAsking:
                continue
            read += 1
            self.same(show_asking(asking), text)
        self.assertGreater(read, 1000)


class Kept(Checks):
    """[2], [12]: askings stay as they were, and the same is told again."""

    def test_showing_leaves_the_asking_as_it_was(self):
        for asking, text in WRITTEN + EDGES:
            told = asking.told()
            self.same([show_asking(asking), show_asking(asking)], [text, text])
            self.same(asking.told(), told)

    def test_what_was_read_once_does_not_meet_what_is_read_again(self):
        text = "all(a; any(row(b c); d))"
        asking = read_asking(text)
        asking.inner_ones().clear()
        asking.inner_ones()[1].inner_ones().append(Never())
        self.same(show_asking(asking), text)
        self.same(read_asking(text).told(), asking.told())


if __name__ == "__main__":
    unittest.main()
