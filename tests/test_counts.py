"""Counts [16] and n [18]: how often leaves stand in a part, and in how many texts."""

import random
import unittest

from shownranks.askings import Begin, Near, Row, Word
from shownranks.books import Book
from shownranks.counts import count_of, many_with, near_pairs, row_starts
from shownranks.errors import Lacking
from shownranks.houses import House
from shownranks.rulebooks import Rulebook
from helpers import NONE_OF_THE_NAMES, Checks, all_told, chance_texts, make_of, slow_count, spoil_told_lists

RULES = Rulebook([("ing", "", 3), ("s", "", 2), ("ies", "y", 2)], ["the", "of"])
ALL_SORTS = [Word("sea"), Begin("se"), Row(["red", "sea"]), Near(3, "red", "sea"), Word("nowhere"), Near(2, "sea", "sea")]
# Each choice of parts, told as tuples.
SOME_PARTS = [(), (0,), (1,), (2,), (0, 1), (0, 2), (1, 2), (0, 1, 2)]


def chance_leaves(chance, many):
    words = ["a", "b", "ab", "the", "walk", "as"]
    leaves = []
    for _ in range(many):
        one, other = chance.choice(words), chance.choice(words)
        leaves += [
            Word(one), Begin(one), Near(chance.randrange(1, 21), one, other), Near(chance.randrange(1, 4), one, one),
            Row([chance.choice(words[:3]) for _ in range(chance.randrange(2, 7))]), Row([one, one]), Row([one, other]),
        ]
    return leaves


class InAPart(Checks):
    """One text, looked at part by part."""

    def counts(self, leaf, rows):
        """Each row a text and the leaf's count in it, in whichever part it stands."""
        for text, wanted in rows:
            for part in (0, 1, 2):
                parts = ["red herring", "red herring", "red herring"]
                parts[part] = text
                book = Book(RULES, {"t": tuple(parts), "other": ("sea red sea red", "sea red sea red", "sea red sea red")})
                self.same(count_of(book, "t", part, leaf), wanted)
                self.same(count_of(book, "t", (part + 1) % 3, leaf), slow_count(book.words_in("t", (part + 1) % 3), leaf.told()))

    def test_a_word(self):
        self.counts(Word("sea"), [
            ("", 0), ("sea", 1), ("Sea SEAS sea", 3), ("red", 0), ("seaside", 0), ("sea-sea;sea", 3), ("a sea of the seas", 2),
            ("sea " * 100, 100), ("se a", 0),
        ])

    def test_a_word_takes_words_as_they_are_told(self):
        self.counts(Word("seas"), [("seas", 0), ("seass", 1)])
        self.counts(Word("the"), [("the the", 0), ("thes", 1)])

    def test_a_begin(self):
        self.counts(Begin("se"), [
            ("", 0), ("se", 1), ("sea seas see", 3), ("red s", 0), ("se se sea", 3), ("SEASIDE; the sea", 2), ("use", 0),
            ("sea " * 50 + "see " * 50, 100),
        ])
        self.counts(Begin("sea"), [("sea", 1), ("se", 0), ("sea seaside seas season", 4)])
        self.counts(Begin("t"), [("the the", 0), ("thes the tea", 2)])
        self.counts(Begin("seas"), [("seas", 0), ("seaside", 1)])
        self.counts(Begin("1"), [("1 12 21 1a", 3)])

    def test_a_row(self):
        self.counts(Row(["red", "sea"]), [
            ("red sea", 1), ("sea red", 0), ("red, Seas!", 1), ("red sea red sea", 2), ("red red sea sea", 1), ("red", 0),
            ("red blue sea", 0), ("", 0), ("sea red sea", 1),
        ])
        self.counts(Row(["a", "b", "c", "d", "e", "f"]), [
            ("a b c d e f", 1), ("a b c d e", 0), ("b c d e f", 0), ("a b c d e f a b c d e f", 2), ("a b c x d e f", 0),
        ])

    def test_silent_words_keep_their_places_within_a_row(self):
        self.counts(Row(["red", "sea"]), [
            ("red the sea", 0), ("the red sea", 1), ("red of the sea", 0), ("red sea of", 1), ("the red the red sea the", 1),
        ])
        self.counts(Row(["the", "sea"]), [("the sea", 0), ("thes sea", 1)])

    def test_a_row_of_one_word_several_times(self):
        self.counts(Row(["sea", "sea"]), [("sea", 0), ("sea sea", 1), ("sea sea sea", 2), ("sea the sea", 0), ("sea " * 100, 99)])
        self.counts(Row(["a", "a", "a"]), [("a a", 0), ("a a a a a", 3), ("a a b a a", 0)])

    def test_rows_that_overlap(self):
        self.counts(Row(["a", "b", "a"]), [("a b a b a", 2), ("a b a a b a", 2), ("a b a", 1), ("a b b a", 0)])
        self.counts(Row(["a", "b", "a", "b", "a", "b"]), [("a b " * 5, 3)])

    def test_a_near_of_two_words(self):
        self.counts(Near(1, "red", "sea"), [
            ("red sea", 1), ("sea red", 1), ("red blue sea", 0), ("sea red sea", 2), ("red sea red sea", 3), ("red", 0), ("", 0),
            ("red red", 0), ("red the sea", 0),
        ])
        self.counts(Near(3, "red", "sea"), [
            ("red x x sea", 1), ("red x x x sea", 0), ("sea x x red", 1), ("sea x x x red", 0), ("red the of sea", 1),
            ("red red red sea", 3), ("red red red red sea", 3), ("red x sea x sea", 1), ("sea red x sea", 2), ("sea red sea red", 4),
        ])
        self.counts(Near(20, "red", "sea"), [
            ("red " + "x " * 19 + "sea", 1), ("red " + "x " * 20 + "sea", 0), ("sea " + "x " * 19 + "red", 1),
            ("sea " + "x " * 20 + "red", 0), ("red " * 10 + "sea " * 10, 100),
        ])

    def test_a_near_of_one_word_twice_has_each_pair_once(self):
        self.counts(Near(1, "sea", "sea"), [("sea", 0), ("sea sea", 1), ("sea sea sea", 2), ("sea x sea", 0), ("", 0)])
        self.counts(Near(2, "sea", "sea"), [
            ("sea x sea", 1), ("sea x x sea", 0), ("sea sea sea", 3), ("sea the sea", 1), ("sea sea sea sea", 5),
        ])
        self.counts(Near(20, "sea", "sea"), [("sea " * 10, 45), ("sea " + "x " * 19 + "sea", 1), ("sea " + "x " * 20 + "sea", 0)])

    def test_a_pair_the_other_way_round_counts_alike(self):
        for text in ["red sea", "sea red", "sea red x sea sea red", "red " * 7 + "sea " * 7]:
            book = Book(RULES, {"t": (text, "", "")})
            for far in range(1, 21):
                self.same(count_of(book, "t", 0, Near(far, "red", "sea")), count_of(book, "t", 0, Near(far, "sea", "red")))

    def test_the_places_that_are_counted(self):
        self.same(near_pairs(Near(2, "a", "b"), {"a": [0, 3, 9], "b": [1, 6]}), [(0, 1), (1, 3)])
        self.same(near_pairs(Near(3, "a", "b"), {"a": [0, 3, 9], "b": [1, 6]}), [(0, 1), (3, 6), (1, 3), (6, 9)])
        self.same(near_pairs(Near(1, "a", "a"), {"a": [0, 1, 2, 4]}), [(0, 1), (1, 2)])
        self.same(near_pairs(Near(20, "a", "b"), {"a": [0]}), [])
        self.same(row_starts([[0, 2, 4, 7], [1, 5, 8], [2, 6, 10]]), [0, 4])

    def test_parts_do_not_meet(self):
        book = Book(RULES, {"t": ("red", "sea", "red sea"), "u": ("sea", "red", "")})
        for leaf, wanted in [
            (Word("red"), [1, 0, 1]), (Word("sea"), [0, 1, 1]), (Begin("s"), [0, 1, 1]), (Row(["red", "sea"]), [0, 0, 1]),
            (Near(20, "red", "sea"), [0, 0, 1]), (Near(20, "red", "red"), [0, 0, 0]),
        ]:
            self.same([count_of(book, "t", part, leaf) for part in (0, 1, 2)], wanted)


class AsTheWordsSay(Checks):
    def test_many_leaves_in_many_texts(self):
        chance = random.Random(16)
        for round_number in range(6):
            texts = chance_texts(chance, chance.choice([1, 7, 40]))
            book, make = Book(RULES, texts), make_of(RULES, texts)
            for leaf in chance_leaves(chance, 6):
                table = {
                    (name, part): slow_count(book.words_in(name, part), leaf.told()) for name in texts for part in (0, 1, 2)
                }
                for (name, part), wanted in table.items():
                    self.same(count_of(book, name, part, leaf), wanted)
                    self.same(count_of(make, name, part, leaf), wanted)
                for parts in SOME_PARTS:
                    many = sum(any(table[name, part] > 0 for part in parts) for name in texts)
                    self.same(many_with(book, parts, leaf), many)
                    self.same(many_with(make, parts, leaf), many)

    def test_parts_of_four_hundred_signs(self):
        texts = {"a": ("a " * 200, "ab " * 133, "a b " * 100), "b": ("x", "a", "")}
        book = Book(RULES, texts)
        for leaf, wanted in [
            (Word("a"), [200, 0, 100]), (Begin("a"), [200, 133, 100]), (Row(["a"] * 6), [195, 0, 0]), (Row(["a", "b"]), [0, 0, 100]),
            (Near(20, "a", "a"), [20 * 200 - 210, 0, 10 * 100 - 55]), (Near(1, "a", "b"), [0, 0, 199]),
        ]:
            self.same([count_of(book, "a", part, leaf) for part in (0, 1, 2)], wanted)


class ManyWith(Checks):
    def setUp(self):
        self.texts = {
            "a": ("red sea", "", ""), "b": ("", "red seas red sea", ""), "c": ("", "", "red"), "d": ("sea", "red", "blue"),
            "e": ("", "", ""), "f": ("the", "of", "the"), "g": ("seaside", "", "red sea"),
        }
        self.book = Book(RULES, self.texts)

    def test_written_out(self):
        for leaf, rows in [
            (Word("red"), [0, 1, 2, 2, 3, 3, 4, 5]),
            (Word("sea"), [0, 2, 1, 1, 3, 3, 2, 4]),
            (Begin("sea"), [0, 3, 1, 1, 4, 3, 2, 4]),
            (Row(["red", "sea"]), [0, 1, 1, 1, 2, 2, 2, 3]),
            (Near(2, "red", "red"), [0, 0, 1, 0, 1, 0, 1, 1]),
            (Near(1, "red", "red"), [0] * 8),
            (Word("the"), [0] * 8),
            (Begin("x"), [0] * 8),
        ]:
            for parts, wanted in zip(SOME_PARTS, rows):
                self.same(many_with(self.book, parts, leaf), wanted)

    def test_of_no_parts_nought(self):
        for leaf in ALL_SORTS:
            self.same(many_with(self.book, (), leaf), 0)

    def test_a_text_counts_once_however_often_the_leaf_stands_in_it(self):
        book = Book(RULES, {"a": ("sea sea", "sea", "sea sea sea")})
        self.same(many_with(book, (0, 1, 2), Word("sea")), 1)

    def test_a_book_without_texts(self):
        for book in [Book(RULES, {}), House(RULES).make(0)]:
            for leaf in ALL_SORTS:
                for parts in SOME_PARTS:
                    self.same(many_with(book, parts, leaf), 0)

    def test_a_make_tells_the_same_and_earlier_makes_as_before(self):
        house = House(RULES)
        texts, books = {}, [Book(RULES, {})]
        for name, parts in list(self.texts.items()) + [("a", None), ("b", ("sea", "sea", "sea")), ("g", None), ("a", ("", "", "red"))]:
            if parts is None:
                house.take(name)
                texts = {key: worth for key, worth in texts.items() if key != name}
            else:
                house.put(name, parts)
                texts = {**texts, name: parts}
            books.append(Book(RULES, texts))
        for number, book in enumerate(books):
            make = house.make(number)
            for leaf in ALL_SORTS:
                for parts in SOME_PARTS:
                    self.same(many_with(make, parts, leaf), many_with(book, parts, leaf))
                for name in book.names():
                    for part in (0, 1, 2):
                        self.same(count_of(make, name, part, leaf), count_of(book, name, part, leaf))


class Refused(Checks):
    def test_what_is_none_of_the_names(self):
        texts = {"sea": ("red sea", "sea", "sea"), "a": ("", "", "")}
        for book in [Book(RULES, texts), Book(RULES, {}), House(RULES).make(0), make_of(RULES, texts)]:
            for thing in NONE_OF_THE_NAMES:
                for leaf in ALL_SORTS:
                    for part in (0, 1, 2):
                        self.refused(Lacking, count_of, book, thing, part, leaf)

    def test_a_text_that_was_taken_out(self):
        house = House(RULES)
        house.put("sea", ("sea", "", ""))
        house.take("sea")
        self.same(count_of(house.make(1), "sea", 0, Word("sea")), 1)
        self.refused(Lacking, count_of, house.make(2), "sea", 0, Word("sea"))
        self.refused(Lacking, count_of, house.make(0), "sea", 0, Word("sea"))


class Kept(Checks):
    """[2]: what is handed in stays, and what is done to told lists changes no answer."""

    def test_counts_change_nothing_and_told_lists_do_not_matter(self):
        texts = {"a": ("red sea red sea", "sea", ""), "b": ("seaside", "", "red sea")}
        book = Book(RULES, texts)
        before = all_told(book)
        parts = [0, 2]
        wanted = [[count_of(book, name, part, leaf) for name in "ab" for part in (0, 1, 2)] for leaf in ALL_SORTS]
        many = [many_with(book, parts, leaf) for leaf in ALL_SORTS]
        leaves_told = [leaf.told() for leaf in ALL_SORTS]
        spoil_told_lists(book)
        texts["a"] = ("", "", "")
        for _ in range(2):
            self.same([[count_of(book, name, part, leaf) for name in "ab" for part in (0, 1, 2)] for leaf in ALL_SORTS], wanted)
            self.same([many_with(book, parts, leaf) for leaf in ALL_SORTS], many)
        self.same(all_told(book), before)
        self.same(parts, [0, 2])
        self.same([leaf.told() for leaf in ALL_SORTS], leaves_told)


if __name__ == "__main__":
    unittest.main()
