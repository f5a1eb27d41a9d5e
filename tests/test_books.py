"""Books [7]: texts cut into words, and where these stand."""

import unittest

from shownranks.books import Book
from shownranks.errors import Lacking
from shownranks.rulebooks import Rulebook
from shownranks.words import runs_of, words_of
from helpers import NO_NAMES, Checks, all_told, spoil_told_lists, starts_of

METHODS = ["rulebook", "names", "words", "begun", "where", "length", "total", "parts", "words_in"]


def some_rules():
    return Rulebook([("ing", "", 3), ("s", "", 2), ("ies", "y", 2)], ["the", "of"])


def some_texts():
    return {
        "sea": ("The Red Sea", "Seas of the red, RED cities; the sea", "red travel"),
        "ark": ("", "the of THE", ""),
        "b": ("Walking", "seaside 12 seas", "walks walk"),
        "empty": ("", "", ""),
        "aa": ("--", "red", "..the.."),
    }


class Told(Checks):
    def setUp(self):
        self.rules = some_rules()
        self.book = Book(self.rules, some_texts())

    def test_the_methods_stand_in_the_class(self):
        self.listed_methods(Book, METHODS)

    def test_rulebook(self):
        told = self.book.rulebook()
        self.assertIsInstance(told, Rulebook)
        for run in ["cities", "walking", "seas", "sea"]:
            self.same(told.brought(run), self.rules.brought(run))
            self.truth(told.is_silent(run), False)
        self.truth(told.is_silent("the"), True)

    def test_names_are_sorted(self):
        self.same(self.book.names(), ["aa", "ark", "b", "empty", "sea"])

    def test_words_are_sorted_and_each_once(self):
        self.same(self.book.words(), ["12", "city", "red", "sea", "seaside", "travel", "walk"])

    def test_begun(self):
        for start, wanted in [
            ("", ["12", "city", "red", "sea", "seaside", "travel", "walk"]), ("s", ["sea", "seaside"]),
            ("se", ["sea", "seaside"]), ("sea", ["sea", "seaside"]), ("seas", ["seaside"]), ("seaside", ["seaside"]),
            ("seasides", []), ("c", ["city"]), ("cit", ["city"]), ("citi", []), ("1", ["12"]), ("12", ["12"]), ("2", []),
            ("S", []), ("Sea", []), ("t", ["travel"]), ("the", []), ("ed", []), (" ", []), ("r ", []), ("w", ["walk"]),
        ]:
            self.same(self.book.begun(start), wanted)

    def test_where(self):
        for word, wanted in [
            ("red", [("aa", 1, [0]), ("sea", 0, [1]), ("sea", 1, [3, 4]), ("sea", 2, [0])]),
            ("sea", [("b", 1, [2]), ("sea", 0, [2]), ("sea", 1, [0, 7])]),
            ("walk", [("b", 0, [0]), ("b", 2, [0, 1])]),
            ("city", [("sea", 1, [5])]),
            ("12", [("b", 1, [1])]),
            ("seaside", [("b", 1, [0])]),
            ("travel", [("sea", 2, [1])]),
        ]:
            self.same(self.book.where(word), wanted)

    def test_where_of_what_stands_nowhere_as_a_word(self):
        for word in ["", "the", "of", "seas", "cities", "walking", "Red", "RED", "re", "redd", "e", " ", "red ", "red sea",
                     "1", "a" * 30, "-", "aa", "ark", "blue"]:
            self.same(self.book.where(word), [])

    def test_lengths_count_silent_runs_and_all_parts(self):
        for name, wanted in [("sea", 3 + 8 + 2), ("ark", 3), ("b", 1 + 3 + 2), ("empty", 0), ("aa", 0 + 1 + 1)]:
            self.same(self.book.length(name), wanted)

    def test_total(self):
        self.same(self.book.total(), 13 + 3 + 6 + 0 + 2)

    def test_parts(self):
        for name, parts in some_texts().items():
            self.same(self.book.parts(name), parts)

    def test_words_in(self):
        for name, part, wanted in [
            ("sea", 0, [("red", 1, 4, 7), ("sea", 2, 8, 11)]),
            ("sea", 1, [("sea", 0, 0, 4), ("red", 3, 12, 15), ("red", 4, 17, 20), ("city", 5, 21, 27), ("sea", 7, 33, 36)]),
            ("sea", 2, [("red", 0, 0, 3), ("travel", 1, 4, 10)]),
            ("ark", 0, []), ("ark", 1, []), ("ark", 2, []), ("aa", 0, []), ("aa", 1, [("red", 0, 0, 3)]), ("aa", 2, []),
            ("b", 0, [("walk", 0, 0, 7)]), ("b", 2, [("walk", 0, 0, 5), ("walk", 1, 6, 10)]),
        ]:
            self.same(self.book.words_in(name, part), wanted)

    def test_a_book_of_one_text(self):
        book = Book(self.rules, {"a": ("x y", "x", "y x y")})
        self.same(book.names(), ["a"])
        self.same(book.words(), ["x", "y"])
        self.same(book.where("x"), [("a", 0, [0]), ("a", 1, [0]), ("a", 2, [1])])
        self.same(book.where("y"), [("a", 0, [1]), ("a", 2, [0, 2])])
        self.same([book.length("a"), book.total()], [6, 6])

    def test_alike_texts_under_two_names_are_two(self):
        book = Book(self.rules, {"b": ("x", "", ""), "a": ("x", "", "")})
        self.same(book.words(), ["x"])
        self.same(book.where("x"), [("a", 0, [0]), ("b", 0, [0])])
        self.same(book.total(), 2)

    def test_places_rise_as_numbers_do(self):
        book = Book(self.rules, {"a": ("", "x " * 150, "")})
        self.same(book.where("x"), [("a", 1, list(range(150)))])

    def test_what_is_brought_alike_is_one_word(self):
        book = Book(Rulebook([("s", "", 1), ("ed", "s", 1)], ["cats"]), {"a": ("cats cat cated catss", "CATS", "")})
        self.same(book.words(), ["cat", "cats"])
        self.same(book.where("cat"), [("a", 0, [1])])
        self.same(book.where("cats"), [("a", 0, [2, 3])])
        self.same(book.length("a"), 5)

    def test_another_rulebook_tells_other_words(self):
        book = Book(Rulebook([], []), some_texts())
        self.same(book.begun("s"), ["sea", "seas", "seaside"])
        self.same(book.where("the"), [("aa", 2, [0]), ("ark", 1, [0, 2]), ("sea", 0, [0]), ("sea", 1, [2, 6])])
        self.same(book.total(), self.book.total())


class AsTheWordsSay(Checks):
    """Greater books, against the runs and words of their parts."""

    def test_forty_texts_of_four_hundred_signs(self):
        rules = some_rules()
        letters = "abcdefghij"
        texts = {}
        for number in reversed(range(40)):
            name = letters[number // 10] + letters[number % 10]
            texts[name] = (f"The {name}s Of {number}", ("walking " + name.upper() + "ies; ") * 23, "the," * 100)
        book = Book(rules, texts)
        self.same(book.names(), sorted(texts))
        spots, total = {}, 0
        for name in sorted(texts):
            runs = 0
            for part, text in enumerate(texts[name]):
                runs += len(runs_of(text))
                self.same(book.words_in(name, part), words_of(rules, text))
                for word, place, _, _ in words_of(rules, text):
                    spots.setdefault(word, {}).setdefault((name, part), []).append(place)
            self.same(book.length(name), runs)
            self.same(book.parts(name), texts[name])
            total += runs
        self.same(book.total(), total)
        self.same(book.words(), sorted(spots))
        for word in starts_of(book.words()):
            wanted = [(*key, places) for key, places in sorted(spots.get(word, {}).items())]
            self.same(book.where(word), wanted)
            self.same(book.begun(word), [other for other in sorted(spots) if other.startswith(word)])


class EmptyBook(Checks):
    def test_a_book_without_texts(self):
        book = Book(some_rules(), {})
        self.same([book.names(), book.words(), book.begun(""), book.begun("a"), book.where("a"), book.where("")], [[]] * 6)
        self.same(book.total(), 0)
        for thing in NO_NAMES + ["a"]:
            self.refused(Lacking, book.length, thing)
            self.refused(Lacking, book.parts, thing)
            self.refused(Lacking, book.words_in, thing, 0)


class Refused(Checks):
    def test_what_is_none_of_the_names(self):
        book = Book(some_rules(), some_texts())
        before = all_told(book)
        for thing in NO_NAMES + ["a", "aaa", "seas", "red", "se", "zzz", "SEA", "sea ", ("sea",), ["sea"], b"sea"]:
            self.refused(Lacking, book.length, thing)
            self.refused(Lacking, book.parts, thing)
            for part in (0, 1, 2):
                self.refused(Lacking, book.words_in, thing, part)
        self.same(all_told(book), before)


class Kept(Checks):
    """[2]: what is done later changes no answer."""

    def test_what_is_handed_in_stays(self):
        texts = some_texts()
        book = Book(some_rules(), texts)
        all_told(book)
        spoil_told_lists(book)
        self.same(texts, some_texts())

    def test_a_dict_changed_afterwards_changes_nothing(self):
        texts = some_texts()
        book = Book(some_rules(), texts)
        before = all_told(book)
        texts["sea"] = ("other", "other", "other")
        texts["new"] = ("new", "", "")
        del texts["b"]
        self.same(all_told(book), before)
        texts.clear()
        self.same(all_told(book), before)

    def test_the_rulebooks_lists_changed_afterwards_change_nothing(self):
        endings, silent = [("s", "", 2)], ["the"]
        rules = Rulebook(endings, silent)
        endings.append(("a", "", 1))
        silent.clear()
        book = Book(rules, {"a": ("the seas", "", "")})
        self.same(book.words(), ["sea"])

    def test_told_lists_changed_afterwards_change_nothing(self):
        book = Book(some_rules(), some_texts())
        before = all_told(book)
        spoil_told_lists(book)
        self.same(all_told(book), before)
        self.same(all_told(book), all_told(Book(some_rules(), some_texts())))

    def test_the_order_in_which_texts_are_handed_in_plays_no_part(self):
        texts = some_texts()
        turned = {name: texts[name] for name in reversed(list(texts))}
        self.same(all_told(Book(some_rules(), turned)), all_told(Book(some_rules(), texts)))

    def test_two_books_do_not_meet(self):
        rules = some_rules()
        one, other = Book(rules, {"a": ("x", "", "")}), Book(rules, {"b": ("x y", "", "")})
        self.same([one.names(), other.names()], [["a"], ["b"]])
        self.same([one.where("x"), other.where("x")], [[("a", 0, [0])], [("b", 0, [0])]])


class CountingRules(Rulebook):
    """A rulebook that counts how often it is asked."""

    def __init__(self, endings, silent):
        Rulebook.__init__(self, endings, silent)
        self.asked = 0

    def brought(self, run):
        self.asked += 1
        return Rulebook.brought(self, run)

    def is_silent(self, run):
        self.asked += 1
        return Rulebook.is_silent(self, run)


class CutOnce(Checks):
    def test_for_words_and_where_they_stand_the_rulebook_is_not_asked_again(self):
        rules = CountingRules([("s", "", 2)], ["the"])
        book = Book(rules, some_texts())
        asked = rules.asked
        self.assertGreater(asked, 0)
        for word in book.words() + book.begun(""):
            book.where(word)
        self.assertEqual(rules.asked, asked)


if __name__ == "__main__":
    unittest.main()
