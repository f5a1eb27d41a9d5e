"""Houses [9, 10]: changes, layers, what was poured, and what is refused."""

import random
import unittest

from shownranks.books import Book
from shownranks.errors import Lacking, NoMake, NoName, NoText
from shownranks.houses import House, Make
from shownranks.rulebooks import Rulebook
from helpers import NO_NAMES, Checks, all_told, spoil_told_lists

RULES = Rulebook([("ing", "", 3), ("s", "", 2), ("ies", "y", 2)], ["the", "of"])
LETTERS = "abcdefghijklmnopqrstuvwxyz"
FORTY = [one + other for one in "abcd" for other in "abcdefghij"]

NO_TEXTS = [
    None, True, False, 0, 3, -1, 10 ** 30, "", "abc", "a", b"abc", [], ["a", "b", "c"], (), ("a",), ("a", "b"),
    ("a", "b", "c", "d"), ("a", "b", None), ("a", 5, "c"), (True, "b", "c"), (b"a", "b", "c"), ("a", ["b"], "c"),
    ("a", "b", ("c",)), (["a"], ["b"], ["c"]), (("a", "b", "c"),), ("a\n", "b", "c"), ("a", "\n", "c"), ("a", "b", "c\nd"),
    ("\t", "", ""), ("", "\r", ""), ("", "", "\x00"), ("\x1f", "", ""), ("", "\x7f", ""), ("", "", "\u00e9"), ("\u2028", "", ""),
    {}, {0: "a", 1: "b", 2: "c"}, {"a": 1, "b": 2, "c": 3}, {"a", "b", "c"}, frozenset("abc"), object(), len, ValueError,
]


def text(word):
    return (f"The {word}", f"walking {word}s of the cities", word)


def change(house, row):
    """Carry out a change written as "+a", a put, or "-a", a take."""
    if row[0] == "+":
        return house.put(row[1:], text(row[1:]))
    return house.take(row[1:])


def seen(house):
    """All that a house tells of how it is now."""
    newest = house.newest()
    make = house.make(newest)
    return [newest, house.sizes(newest), house.entries_poured(), make.names(), [make.parts(name) for name in make.names()]]


class SlowHouse:
    """The words of [9], done as slowly and plainly as may be: layers are dicts, None is gone."""

    def __init__(self):
        self.layers = []
        self.poured = 0
        self.texts = {}

    def change(self, name, parts):
        self.texts = {key: worth for key, worth in self.texts.items() if key != name}
        if parts is not None:
            self.texts[name] = parts
        self.layers.append({name: parts})
        while len(self.layers) >= 2 and 2 * len(self.layers[-1]) > len(self.layers[-2]):
            upper, lower = self.layers.pop(), self.layers.pop()
            self.poured += len(upper) + len(lower)
            self.layers.append({**lower, **upper})
        self.layers[0] = {key: worth for key, worth in self.layers[0].items() if worth is not None}
        if not self.layers[0]:
            del self.layers[0]

    def sizes(self):
        return [len(layer) for layer in self.layers]


def rows_of_changes():
    """Rows of up to a hundred changes, at most forty texts at a time, as lists of (name, word), the word None for a take."""
    rows = [
        [(name, name) for name in FORTY],
        [(name, name) for name in FORTY] + [(name, None) for name in FORTY],
        [(name, name) for name in FORTY] + [(name, None) for name in reversed(FORTY)] + [("a", "b")] * 20,
        [("a", "a")] * 100,
        [("a", None if number % 2 else "a") for number in range(100)],
        [(FORTY[number // 2], None if number % 2 else "x") for number in range(80)],
        [(FORTY[number % 7], f"w{number}") for number in range(100)],
        [(name, name) for name in FORTY[:32]] + [(FORTY[number // 2], None if number % 2 == 0 else "x") for number in range(64)],
    ]
    for start in range(12):
        rows.append(rows_by_chance(random.Random(start), 100, FORTY[:3 + 3 * start]))
    return rows


def rows_by_chance(chance, many, names):
    row, standing = [], []
    for number in range(many):
        if standing and chance.randrange(3) == 0:
            name = chance.choice(standing)
            standing.remove(name)
            row.append((name, None))
        else:
            name = chance.choice(names)
            standing = standing if name in standing else standing + [name]
            row.append((name, f"w{chance.randrange(5)} seas"))
    return row


def bound(changes):
    k = 0
    while 5 ** k < changes * 4 ** k:
        k += 1
    return changes * (9 + k)


class ByHand(Checks):
    """Rows of changes, reckoned by hand: each with the sizes and what was poured behind it."""

    def row(self, steps):
        house = House(RULES)
        self.same([house.newest(), house.sizes(0), house.entries_poured()], [0, [], 0])
        for number, (row, sizes, many) in enumerate(steps, start=1):
            self.same(change(house, row), number)
            self.same([house.newest(), house.sizes(number), house.entries_poured()], [number, sizes, many])
        for number, (row, sizes, many) in enumerate(steps, start=1):
            self.same(house.sizes(number), sizes)
        self.same(house.sizes(0), [])
        return house

    def test_the_methods_stand_in_the_class(self):
        self.listed_methods(House, ["put", "take", "newest", "make", "sizes", "entries_poured"])

    def test_puts_of_unlike_names(self):
        self.row([
            ("+a", [1], 0), ("+b", [2], 2), ("+c", [2, 1], 2), ("+d", [4], 8), ("+e", [4, 1], 8), ("+f", [4, 2], 10),
            ("+g", [4, 2, 1], 10), ("+h", [8], 24), ("+i", [8, 1], 24), ("+j", [8, 2], 26), ("+k", [8, 2, 1], 26),
            ("+l", [8, 4], 32), ("+m", [8, 4, 1], 32), ("+n", [8, 4, 2], 34), ("+o", [8, 4, 2, 1], 34), ("+p", [16], 64),
        ])

    def test_a_text_put_again_under_its_name_also_if_it_is_alike(self):
        house = self.row([
            ("+a", [1], 0), ("+a", [1], 2), ("+a", [1], 4), ("+b", [2], 6), ("+a", [2, 1], 6), ("+a", [2, 1], 8),
            ("+b", [2], 14), ("+c", [2, 1], 14), ("+c", [2, 1], 16), ("+d", [4], 22), ("+c", [4, 1], 22),
        ])
        self.same(house.make(11).names(), ["a", "b", "c", "d"])

    def test_an_emptied_house(self):
        house = self.row([
            ("+a", [1], 0), ("-a", [], 2), ("+a", [1], 2), ("+b", [2], 4), ("-a", [2, 1], 4), ("-b", [], 10),
            ("+c", [1], 10), ("-c", [], 12),
        ])
        self.same(house.make(house.newest()).names(), [])
        self.same(house.make(7).names(), ["c"])

    def test_gone_entries_are_kept_above_and_left_out_below(self):
        house = self.row([
            ("+a", [1], 0), ("+b", [2], 2), ("+c", [2, 1], 2), ("+d", [4], 8), ("-a", [4, 1], 8), ("-b", [4, 2], 10),
            ("-c", [4, 2, 1], 10), ("+e", [2], 24), ("-d", [2, 1], 24), ("+d", [2, 1], 26),
        ])
        self.same(house.make(house.newest()).names(), ["d", "e"])
        self.same(house.make(6).names(), ["c", "d"])
        self.same(house.make(7).names(), ["d"])

    def test_put_above_gone_in_one_layer(self):
        house = self.row([
            ("+a", [1], 0), ("+b", [2], 2), ("+c", [2, 1], 2), ("+d", [4], 8), ("-a", [4, 1], 8), ("+a", [4, 1], 10),
            ("-a", [4, 1], 12), ("+b", [4, 2], 14), ("-b", [4, 2, 1], 14), ("-c", [1], 27),
        ])
        self.same(house.make(10).names(), ["d"])
        self.same(house.make(6).names(), ["a", "b", "c", "d"])


class Changes(Checks):
    def test_each_change_tells_the_next_number(self):
        house = House(RULES)
        self.same(house.newest(), 0)
        self.same([change(house, row) for row in ["+a", "+a", "+b", "-a", "+a", "-b", "-a"]], [1, 2, 3, 4, 5, 6, 7])
        self.same(house.newest(), 7)

    def test_what_is_put_stands_till_it_is_taken_or_another_is_put(self):
        house = House(RULES)
        house.put("a", ("one", "two", "three"))
        self.same(house.make(1).parts("a"), ("one", "two", "three"))
        house.put("a", ("other", "", ""))
        self.same(house.make(2).parts("a"), ("other", "", ""))
        self.same(house.make(2).words(), ["other"])
        house.take("a")
        self.same(house.make(3).names(), [])
        self.refused(Lacking, house.make(3).parts, "a")

    def test_names_of_one_and_of_eight_letters_and_all_signs_are_taken(self):
        house = House(RULES)
        signs = "".join(chr(number) for number in range(32, 127) if number != 37)
        for number, name in enumerate(list(LETTERS) + ["abcdefgh", "zzzzzzzz", "az"], start=1):
            self.same(house.put(name, (signs, "", signs[::-1])), number)
            self.same(house.make(number).parts(name), (signs, "", signs[::-1]))
        self.same(house.put("a", ("x " * 200, "." * 400, "")), number + 1)

    def test_layers_and_what_was_poured_along_many_rows(self):
        for row in rows_of_changes():
            house, slow = House(RULES), SlowHouse()
            for number, (name, word) in enumerate(row, start=1):
                parts = None if word is None else (word, "", word)
                self.assertLessEqual(len(slow.texts), 40)
                self.same(house.take(name) if parts is None else house.put(name, parts), number)
                slow.change(name, parts)
                sizes = house.sizes(number)
                self.same(sizes, slow.sizes())
                self.same(house.entries_poured(), slow.poured)
                self.assertTrue(all(low >= 2 * up for low, up in zip(sizes, sizes[1:])), sizes)
                self.assertTrue(all(size > 0 for size in sizes), sizes)
                self.assertLessEqual(house.entries_poured(), bound(number))
            self.same(house.make(house.newest()).names(), sorted(slow.texts))

    def test_two_houses_do_not_meet(self):
        one, other = House(RULES), House(RULES)
        one.put("a", text("x"))
        one.put("b", text("x"))
        self.same(seen(other), [0, [], 0, [], []])
        other.put("c", text("y"))
        self.same(one.make(one.newest()).names(), ["a", "b"])
        self.same(other.make(1).names(), ["c"])


class Refused(Checks):
    def houses(self):
        """Houses of several states, each with a name that stands there, or None."""
        some = [(House(RULES), None)]
        for row in (["+a"], ["+a", "+b", "+c", "+d", "-b", "+e"], ["+a", "-a"], ["+a", "+b", "+c", "+d", "+e", "-a", "-b"]):
            house = House(RULES)
            for one in row:
                change(house, one)
            names = house.make(house.newest()).names()
            some.append((house, names[-1] if names else None))
        return some

    def unchanged(self, house, kind, call, *handed):
        before = seen(house)
        self.refused(kind, call, *handed)
        self.same(seen(house), before)

    def test_a_put_of_what_is_no_name(self):
        for house, _ in self.houses():
            for name in NO_NAMES:
                self.unchanged(house, NoName, house.put, name, text("x"))

    def test_a_put_of_what_is_no_text(self):
        for house, name in self.houses():
            for parts in NO_TEXTS:
                self.unchanged(house, NoText, house.put, name or "a", parts)
                self.unchanged(house, NoText, house.put, "new", parts)

    def test_the_name_is_looked_at_first(self):
        house = House(RULES)
        for name in NO_NAMES:
            for parts in NO_TEXTS[:12] + NO_TEXTS[-12:]:
                self.unchanged(house, NoName, house.put, name, parts)

    def test_a_take_where_none_stands(self):
        for house, _ in self.houses():
            for name in NO_NAMES + ["z", "ab", "the", "abcdefgh"]:
                self.unchanged(house, Lacking, house.take, name)

    def test_a_take_of_what_was_taken(self):
        house = House(RULES)
        for row in ["+a", "+b", "+c", "+d", "-a"]:
            change(house, row)
        self.unchanged(house, Lacking, house.take, "a")
        change(house, "-b")
        self.unchanged(house, Lacking, house.take, "a")
        self.unchanged(house, Lacking, house.take, "b")
        change(house, "-c")
        change(house, "-d")
        for name in "abcd":
            self.unchanged(house, Lacking, house.take, name)
        self.same(house.put("a", text("a")), 9)
        self.same(house.take("a"), 10)
        self.unchanged(house, Lacking, house.take, "a")

    def test_numbers_that_are_no_make(self):
        for house, _ in self.houses():
            newest = house.newest()
            for number in [-1, -2, -newest - 1, newest + 1, newest + 2, 10 ** 30, -(10 ** 30)]:
                self.unchanged(house, NoMake, house.make, number)
                self.unchanged(house, NoMake, house.sizes, number)

    def test_a_number_is_a_make_as_soon_as_its_change_is_made(self):
        house = House(RULES)
        self.refused(NoMake, house.make, 1)
        self.refused(NoMake, house.sizes, 1)
        house.put("a", text("a"))
        self.same(house.make(1).number(), 1)
        self.same(house.sizes(1), [1])

    def test_what_is_refused_makes_no_make(self):
        house = House(RULES)
        house.put("a", text("a"))
        self.refused(NoName, house.put, "A", text("a"))
        self.refused(NoText, house.put, "a", None)
        self.refused(Lacking, house.take, "b")
        self.refused(NoMake, house.make, 2)
        self.same(house.put("b", text("b")), 2)


class Makes(Checks):
    """Makes [11], and [4]: each tells what one book of all its texts does."""

    def test_the_methods_stand_in_the_class(self):
        self.listed_methods(Make, [
            "rulebook", "names", "words", "begun", "where", "length", "total", "parts", "words_in", "number",
        ])

    def like_book(self, make, texts, number):
        self.assertIsInstance(make, Make)
        self.assertIsInstance(make, Book)
        self.same(make.number(), number)
        self.same([make.rulebook().brought("cities"), make.rulebook().is_silent("of")], ["city", True])
        self.same(all_told(make), all_told(Book(RULES, texts)))

    def test_make_nought_is_the_house_without_texts(self):
        house = House(RULES)
        self.like_book(house.make(0), {}, 0)
        house.put("a", text("a"))
        self.like_book(house.make(0), {}, 0)

    def test_a_make_by_hand(self):
        house = House(RULES)
        house.put("sea", ("The Red Sea", "the seas", "red"))
        house.put("ark", ("", "Red cities", ""))
        house.put("sea", ("A sea", "walking", ""))
        one, two, three = house.make(1), house.make(2), house.make(3)
        self.same([one.names(), two.names(), three.names()], [["sea"], ["ark", "sea"], ["ark", "sea"]])
        self.same(two.words(), ["city", "red", "sea"])
        self.same(three.words(), ["a", "city", "red", "sea", "walk"])
        self.same(two.where("red"), [("ark", 1, [0]), ("sea", 0, [1]), ("sea", 2, [0])])
        self.same(three.where("red"), [("ark", 1, [0])])
        self.same([one.total(), two.total(), three.total()], [6, 8, 5])
        self.same([two.length("sea"), three.length("sea")], [6, 3])
        self.same(three.parts("sea"), ("A sea", "walking", ""))
        self.same(three.words_in("sea", 0), [("a", 0, 0, 1), ("sea", 1, 2, 5)])
        self.same(two.begun("se"), ["sea"])
        self.same(three.begun("w"), ["walk"])
        self.same([one.number(), two.number(), three.number()], [1, 2, 3])

    def test_every_make_along_many_rows_at_once_and_again_afterwards(self):
        for row in rows_of_changes()[1:]:
            house, texts, wanted = House(RULES), {}, [{}]
            for number, (name, word) in enumerate(row, start=1):
                if word is None:
                    house.take(name)
                    del texts[name]
                else:
                    texts[name] = (f"{word} {number}", f"The {word}s, {word}", word * (number % 3))
                    house.put(name, texts[name])
                wanted.append(dict(texts))
                if number % 5 == 0:
                    self.like_book(house.make(number), texts, number)
            for number in range(0, house.newest() + 1, 3):
                self.like_book(house.make(number), wanted[number], number)

    def test_a_make_that_was_told_earlier_stays_as_it_was(self):
        house, made = House(RULES), []
        for row in ["+a", "+b", "-a", "+c", "+d", "-b", "+a", "-d", "-c", "-a"]:
            make = house.make(change(house, row))
            made.append((make, all_told(make)))
        for number, (make, told) in enumerate(made, start=1):
            self.same(all_told(make), told)
            self.same(all_told(house.make(number)), told)
            self.same([make.number(), house.make(number).number()], [number, number])

    def test_however_the_texts_came_the_make_tells_the_same(self):
        texts = {name: text(name) for name in FORTY[:9]}
        straight, around = House(RULES), House(RULES)
        for name in texts:
            straight.put(name, texts[name])
        for name in reversed(FORTY[:12]):
            around.put(name, text("other"))
        for name in FORTY[9:12] + FORTY[:4]:
            around.take(name)
        for name in texts:
            around.put(name, texts[name])
        wanted = all_told(Book(RULES, texts))
        self.same(all_told(straight.make(straight.newest())), wanted)
        self.same(all_told(around.make(around.newest())), wanted)

    def test_what_is_none_of_its_names_is_refused(self):
        house = House(RULES)
        for row in ["+a", "+b", "+c", "+d", "-c"]:
            change(house, row)
        make = house.make(5)
        for thing in NO_NAMES + ["c", "e", "aa", "A"]:
            self.refused(Lacking, make.length, thing)
            self.refused(Lacking, make.parts, thing)
            self.refused(Lacking, make.words_in, thing, 1)
        self.same(house.make(4).length("c"), 8)
        self.refused(Lacking, house.make(2).length, "c")


class Kept(Checks):
    """[2]: what is done later changes no answer."""

    def test_told_lists_changed_afterwards_change_nothing(self):
        house = House(RULES)
        for row in ["+a", "+b", "+c", "-a", "+d", "+e"]:
            change(house, row)
        before = [all_told(house.make(number)) for number in range(7)]
        sizes = [house.sizes(number) for number in range(7)]
        for number in range(7):
            spoil_told_lists(house.make(number))
            house.sizes(number).append(5)
            house.sizes(number).clear()
        self.same([all_told(house.make(number)) for number in range(7)], before)
        self.same([house.sizes(number) for number in range(7)], sizes)
        self.same([house.put("f", text("f")), house.newest()], [7, 7])
        self.same(house.make(7).names(), ["b", "c", "d", "e", "f"])

    def test_the_rulebooks_lists_changed_afterwards_change_nothing(self):
        endings, silent = [("s", "", 2)], ["the"]
        house = House(Rulebook(endings, silent))
        house.put("a", ("the seas", "", ""))
        endings.clear()
        silent[0] = "sea"
        house.put("b", ("the cats", "", ""))
        self.same([house.make(1).words(), house.make(2).words()], [["sea"], ["cat", "sea"]])

    def test_asking_changes_nothing(self):
        house = House(RULES)
        for row in ["+a", "+b", "+c", "-a"]:
            change(house, row)
        for _ in range(3):
            self.same([house.newest(), house.entries_poured(), house.sizes(4), house.sizes(3)], [4, 8, [2], [2, 1]])
            self.same(house.make(2).names(), ["a", "b"])
            self.same(house.make(4).names(), ["b", "c"])


if __name__ == "__main__":
    unittest.main()
