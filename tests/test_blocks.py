"""Blocks [21]: a book's names, sorted, so many each."""

import unittest

from shownranks.blocks import blocks_of
from shownranks.books import Book
from shownranks.errors import NoMany
from shownranks.houses import House
from shownranks.rulebooks import Rulebook
from helpers import NO_MANY, Checks, all_told, make_of

PLAIN = Rulebook([], [])
FORTY = [one + other for one in "abcd" for other in "abcdefghij"]


def book_of(names):
    return Book(PLAIN, {name: ("x", "", "") for name in names})


class Blocks(Checks):
    def test_written_out(self):
        book = book_of(["e", "b", "d", "a", "c"])
        for wide, wanted in [
            (1, [["a"], ["b"], ["c"], ["d"], ["e"]]), (2, [["a", "b"], ["c", "d"], ["e"]]), (3, [["a", "b", "c"], ["d", "e"]]),
            (4, [["a", "b", "c", "d"], ["e"]]), (5, [["a", "b", "c", "d", "e"]]), (6, [["a", "b", "c", "d", "e"]]),
            (40, [["a", "b", "c", "d", "e"]]),
        ]:
            self.same(blocks_of(book, wide), wanted)

    def test_each_number_from_one_to_forty(self):
        for many in [0, 1, 2, 12, 39, 40]:
            texts = {name: ("x", "", "") for name in reversed(FORTY[:many])}
            for book in [Book(PLAIN, texts), make_of(PLAIN, texts)]:
                for wide in range(1, 41):
                    told = blocks_of(book, wide)
                    self.same(sum(told, []), FORTY[:many])
                    self.assertEqual(len(told), -(-many // wide))
                    for block in told[:-1]:
                        self.assertEqual(len(block), wide)
                    for block in told[-1:]:
                        self.assertTrue(1 <= len(block) <= wide)

    def test_a_book_without_texts(self):
        for book in [Book(PLAIN, {}), House(PLAIN).make(0)]:
            for wide in [1, 7, 40]:
                self.same(blocks_of(book, wide), [])

    def test_names_are_sorted_as_texts(self):
        self.same(blocks_of(book_of(["b", "aa", "a", "ab", "ba"]), 2), [["a", "aa"], ["ab", "b"], ["ba"]])

    def test_any_other_number_and_anything_else_is_refused(self):
        for book in [book_of(FORTY), book_of(["a"]), Book(PLAIN, {}), House(PLAIN).make(0)]:
            for thing in NO_MANY:
                self.refused(NoMany, blocks_of, book, thing)


class Kept(Checks):
    def test_told_lists_changed_afterwards_change_nothing(self):
        book = book_of(["a", "b", "c"])
        before = all_told(book)
        told = blocks_of(book, 2)
        told[0].append("more")
        told[1].clear()
        told.reverse()
        blocks_of(book, 40)[0].reverse()
        for _ in range(2):
            self.same(blocks_of(book, 2), [["a", "b"], ["c"]])
            self.same(blocks_of(book, 40), [["a", "b", "c"]])
        self.same(all_told(book), before)

    def test_earlier_makes_as_before(self):
        house = House(PLAIN)
        for name in ["b", "a", "c"]:
            house.put(name, ("", "", ""))
        house.take("a")
        self.same(blocks_of(house.make(3), 2), [["a", "b"], ["c"]])
        self.same(blocks_of(house.make(4), 2), [["b", "c"]])
        self.same(blocks_of(house.make(1), 2), [["b"]])


if __name__ == "__main__":
    unittest.main()
