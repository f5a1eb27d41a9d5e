"""What several test files need."""

import unittest

# Things of all kinds, and texts, that are no names.
NO_NAMES = [
    None, True, False, 0, 1, -1, 10 ** 30, "", " ", "A", "Z", "a1", "0", "a b", " a", "a ", "a\n", "\n", "abcdefghi", "aB",
    "`", "{", "a-b", "\u00e9", "\u00aa", b"a", b"", [], ["a"], (), ("a",), ("a", "b", "c"), (["a"],), {}, {"a": "b"},
    {"a"}, frozenset("a"), object(), len, ValueError, [["a"]],
]


class Checks(unittest.TestCase):
    """A test case with the checks that several files share."""

    maxDiff = None

    def same(self, told, wanted):
        """Alike in worth and in kind, all the way down: True is no 1, and a list no tuple."""
        self.assertEqual(told, wanted)
        self.assertEqual(repr(told), repr(wanted))

    def refused(self, kind, call, *handed):
        """The call is refused, and with this class."""
        with self.assertRaises(kind, msg=f"{call} of {handed!r}"):
            call(*handed)

    def truth(self, told, wanted):
        """True or False itself, not merely something that counts as it."""
        self.assertIs(told, wanted)

    def listed_methods(self, kind, names):
        """Each method stands in the class itself."""
        for name in names:
            self.assertTrue(callable(vars(kind).get(name)), f"{kind.__name__}.{name}")


def starts_of(words):
    """Each beginning of the words, the words themselves, and some texts with which none begins."""
    starts = {"", "A", "Sea", "zz", "-", " ", "sea "}
    for word in words:
        starts |= {word[:end] for end in range(len(word) + 1)} | {word + "x", word + "s", word.upper(), word[1:]}
    return sorted(starts)


def all_told(book):
    """All that a book tells, by each of its methods."""
    names, starts = book.names(), starts_of(book.words())
    return [
        names, book.words(), book.total(), [book.begun(start) for start in starts], [book.where(word) for word in starts],
        [book.length(name) for name in names], [book.parts(name) for name in names],
        [[book.words_in(name, part) for part in (0, 1, 2)] for name in names],
    ]


def spoil_told_lists(book):
    """Change every list that a book tells, and the lists within them."""
    for name in book.names():
        for part in (0, 1, 2):
            book.words_in(name, part).append(("more", 0, 0, 4))
            book.words_in(name, part).clear()
    for word in book.words():
        for spot in book.where(word):
            spot[2].append(99)
            spot[2].reverse()
        book.where(word).clear()
    for told in (book.names(), book.words(), book.begun("")):
        told.reverse()
        told.append("more")
