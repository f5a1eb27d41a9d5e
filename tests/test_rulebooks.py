"""Rulebooks [5], and how runs are brought [6]."""

import unittest

from shownranks.errors import NoRule
from shownranks.rulebooks import Rulebook
from helpers import Checks

GOOD_ENDINGS = [("ing", "", 3), ("s", "", 2), ("ies", "y", 2)]
GOOD_SILENT = ["the", "of", "2nd"]
LETTERS = "abcdefghijklmnopqrstuvwxyz"
# What stands beside the letters and figures among the signs, and some others.
NO_PLAIN_SIGNS = list("AMZ`{@[/: -_~!.*")
NO_SMALL_LETTERS = NO_PLAIN_SIGNS + list("059")


class Allowed(Checks):
    def test_the_methods_stand_in_the_class(self):
        self.listed_methods(Rulebook, ["brought", "is_silent"])

    def test_empty_lists(self):
        book = Rulebook([], [])
        self.assertEqual(book.brought("walking"), "walking")
        self.truth(book.is_silent("walking"), False)

    def test_endings_of_one_and_of_eight_letters(self):
        book = Rulebook([("a", "", 1), ("abcdefgh", "", 1)], [])
        self.assertEqual(book.brought("xa"), "x")
        self.assertEqual(book.brought("xabcdefgh"), "x")

    def test_every_small_letter_is_an_ending_and_an_instead(self):
        for letter in LETTERS:
            self.assertEqual(Rulebook([(letter, "", 1)], []).brought("0" + letter), "0")
            self.assertEqual(Rulebook([("q", letter, 1)], []).brought("0q"), "0" + letter)

    def test_instead_of_no_letter_and_of_as_many_as_the_ending(self):
        for instead in ["", "x", "xyz", "xyzxyzxy"]:
            self.assertEqual(Rulebook([("abcdefgh", instead, 1)], []).brought("qabcdefgh"), "q" + instead)
        self.assertEqual(Rulebook([("s", "z", 1)], []).brought("as"), "az")

    def test_least_of_one_and_of_twenty(self):
        self.assertEqual(Rulebook([("s", "", 1)], []).brought("as"), "a")
        book = Rulebook([("s", "", 20)], [])
        self.assertEqual(book.brought("a" * 20 + "s"), "a" * 20)
        self.assertEqual(book.brought("a" * 19 + "s"), "a" * 19 + "s")

    def test_every_least_between(self):
        for least in range(1, 21):
            book = Rulebook([("s", "", least)], [])
            self.assertEqual(book.brought("a" * least + "s"), "a" * least)
            self.assertEqual(book.brought("a" * (least - 1) + "s"), "a" * (least - 1) + "s")

    def test_silent_words_of_one_and_of_twenty_signs(self):
        silent = ["a", "0", "a" * 20, "9" * 20, "ab12" * 5, LETTERS[:20], LETTERS[6:], "0123456789"]
        book = Rulebook([], silent)
        for word in silent:
            self.truth(book.is_silent(word), True)

    def test_twelve_endings_and_forty_silent_words(self):
        endings = [(letter + "q", letter, 1) for letter in LETTERS[:12]]
        silent = [f"word{number}" for number in range(40)]
        book = Rulebook(endings, silent)
        for letter in LETTERS[:12]:
            self.assertEqual(book.brought("x" + letter + "q"), "x" + letter)
        for number in range(40):
            self.truth(book.is_silent(f"word{number}"), True)
        self.truth(book.is_silent("word40"), False)

    def test_an_ending_may_be_a_silent_word_and_another_ones_instead_or_end(self):
        book = Rulebook([("s", "", 1), ("es", "s", 1), ("ses", "es", 1)], ["s", "es"])
        self.assertEqual(book.brought("xses"), "xes")
        self.truth(book.is_silent("s"), True)


class Refused(Checks):
    def bad_ending(self, row):
        """Refused by itself and wherever it stands among good ones."""
        self.refused(NoRule, Rulebook, [row], [])
        for at in range(len(GOOD_ENDINGS) + 1):
            self.refused(NoRule, Rulebook, GOOD_ENDINGS[:at] + [row] + GOOD_ENDINGS[at:], GOOD_SILENT)

    def bad_silent(self, word):
        self.refused(NoRule, Rulebook, [], [word])
        for at in range(len(GOOD_SILENT) + 1):
            self.refused(NoRule, Rulebook, GOOD_ENDINGS, GOOD_SILENT[:at] + [word] + GOOD_SILENT[at:])

    def test_the_good_ones_alone_are_not_refused(self):
        Rulebook(GOOD_ENDINGS, GOOD_SILENT)

    def test_an_ending_of_no_letter(self):
        self.bad_ending(("", "", 1))

    def test_an_ending_of_nine_letters_and_more(self):
        self.bad_ending(("abcdefghi", "", 1))
        self.bad_ending(("a" * 40, "", 1))

    def test_an_ending_with_another_sign(self):
        for sign in NO_SMALL_LETTERS:
            self.bad_ending((sign, "", 1))
            self.bad_ending((sign + "ab", "", 1))
            self.bad_ending(("a" + sign + "b", "", 1))
            self.bad_ending(("ab" + sign, "", 1))

    def test_an_instead_longer_than_its_ending(self):
        self.bad_ending(("a", "bc", 1))
        self.bad_ending(("abc", "abcd", 1))
        self.bad_ending(("abcdefgh", "abcdefghi", 1))
        self.bad_ending(("abcdefg", "abcdefgh", 1))

    def test_an_instead_with_another_sign(self):
        for sign in NO_SMALL_LETTERS:
            self.bad_ending(("abc", sign, 1))
            self.bad_ending(("abc", sign + "ab", 1))
            self.bad_ending(("abc", "a" + sign + "b", 1))
            self.bad_ending(("abc", "ab" + sign, 1))

    def test_a_least_that_is_not_from_one_to_twenty(self):
        for least in [0, 21, 22, -1, -20, -(10 ** 30), 100, 10 ** 30]:
            self.bad_ending(("abc", "", least))

    def test_an_ending_that_stands_twice(self):
        for ending, instead, least in GOOD_ENDINGS:
            for row in [(ending, instead, least), (ending, "x", least), (ending, instead, 7), (ending, "q", 9)]:
                for at in range(len(GOOD_ENDINGS) + 1):
                    self.refused(NoRule, Rulebook, GOOD_ENDINGS[:at] + [row] + GOOD_ENDINGS[at:], [])

    def test_a_silent_word_of_no_sign(self):
        self.bad_silent("")

    def test_a_silent_word_of_twenty_one_signs_and_more(self):
        self.bad_silent("a" * 21)
        self.bad_silent("1" * 21)
        self.bad_silent("a" * 60)

    def test_a_silent_word_with_another_sign(self):
        for sign in NO_PLAIN_SIGNS:
            self.bad_silent(sign)
            self.bad_silent(sign + "ab")
            self.bad_silent("a" + sign + "b")
            self.bad_silent("ab" + sign)

    def test_a_silent_word_that_stands_twice(self):
        for word in GOOD_SILENT:
            for at in range(len(GOOD_SILENT) + 1):
                self.refused(NoRule, Rulebook, [], GOOD_SILENT[:at] + [word] + GOOD_SILENT[at:])

    def test_at_the_end_of_long_lists(self):
        endings = [(letter + "q", "", 1) for letter in LETTERS[:11]]
        silent = [f"word{number}" for number in range(39)]
        self.refused(NoRule, Rulebook, endings + [("aq", "a", 2)], silent)
        self.refused(NoRule, Rulebook, endings + [("x", "", 0)], silent)
        self.refused(NoRule, Rulebook, endings, silent + ["word0"])
        self.refused(NoRule, Rulebook, endings, silent + ["Word"])


class Brought(Checks):
    def test_the_ending_goes_and_its_instead_stands_there(self):
        book = Rulebook(GOOD_ENDINGS, [])
        for run, wanted in [
            ("walking", "walk"), ("cats", "cat"), ("cities", "city"), ("sea", "sea"), ("ingot", "ingot"),
            ("2ies", "2ie"), ("12ies", "12y"), ("007s", "007"), ("42", "42"), ("", ""), ("a", "a"),
        ]:
            self.same(book.brought(run), wanted)

    def test_the_longest_that_fits_wherever_it_stands_in_the_list(self):
        endings = [("s", "", 1), ("es", "x", 1), ("ies", "y", 1)]
        for turned in (endings, endings[::-1], [endings[1], endings[2], endings[0]], [endings[1], endings[0], endings[2]]):
            book = Rulebook(turned, [])
            self.assertEqual(book.brought("babies"), "baby")
            self.assertEqual(book.brought("boxes"), "boxx")
            self.assertEqual(book.brought("cats"), "cat")

    def test_where_the_longest_leaves_too_few_a_shorter_one_may(self):
        endings = [("ies", "y", 3), ("es", "", 4), ("s", "", 2)]
        for turned in (endings, endings[::-1]):
            book = Rulebook(turned, [])
            self.assertEqual(book.brought("babies"), "baby")
            self.assertEqual(book.brought("ties"), "tie")
            self.assertEqual(book.brought("boxes"), "boxe")
            self.assertEqual(book.brought("foxxes"), "foxx")
            self.assertEqual(book.brought("yes"), "ye")
            self.assertEqual(book.brought("as"), "as")

    def test_where_none_leaves_enough_the_run_stays(self):
        book = Rulebook([("ing", "", 3), ("g", "", 5)], [])
        self.assertEqual(book.brought("ring"), "ring")
        self.assertEqual(book.brought("bring"), "bring")
        self.assertEqual(book.brought("spring"), "spr")

    def test_the_run_that_is_the_ending_stays(self):
        self.assertEqual(Rulebook([("ing", "", 1)], []).brought("ing"), "ing")
        self.assertEqual(Rulebook([("s", "", 1)], []).brought("s"), "s")

    def test_least_counts_the_signs_ahead_and_not_the_instead(self):
        book = Rulebook([("ies", "y", 2)], [])
        self.assertEqual(book.brought("ties"), "ties")
        self.assertEqual(book.brought("cries"), "cry")

    def test_once_alone(self):
        book = Rulebook([("s", "", 1), ("ed", "es", 1)], [])
        self.assertEqual(book.brought("asss"), "ass")
        self.assertEqual(book.brought("boxed"), "boxes")
        self.assertEqual(Rulebook([("ing", "ing", 1)], []).brought("ringing"), "ringing")

    def test_only_at_the_end(self):
        book = Rulebook([("s", "", 1), ("ing", "", 1)], [])
        self.assertEqual(book.brought("season"), "season")
        self.assertEqual(book.brought("singingx"), "singingx")
        self.assertEqual(book.brought("xingings"), "xinging")
        self.assertEqual(book.brought("xinging"), "xing")

    def test_silent_words_are_brought_as_others_are(self):
        self.assertEqual(Rulebook([("s", "", 1)], ["as"]).brought("as"), "a")

    def test_long_runs(self):
        book = Rulebook([("s", "z", 20)], [])
        self.assertEqual(book.brought("a1" * 199 + "as"), "a1" * 199 + "az")


class Silent(Checks):
    def test_just_the_silent_words_as_they_stand(self):
        book = Rulebook(GOOD_ENDINGS, GOOD_SILENT)
        for word in GOOD_SILENT:
            self.truth(book.is_silent(word), True)
        for word in ["thes", "th", "he", "theing", "off", "o", "2n", "nd", "sea", "", "2", "s", "ing"]:
            self.truth(book.is_silent(word), False)


class Kept(Checks):
    """[2]: what is done later changes no answer."""

    def test_what_is_handed_in_stays(self):
        endings, silent = list(GOOD_ENDINGS), list(GOOD_SILENT)
        book = Rulebook(endings, silent)
        book.brought("cities")
        book.is_silent("the")
        self.assertEqual(endings, GOOD_ENDINGS)
        self.assertEqual(silent, GOOD_SILENT)

    def test_what_is_refused_stays(self):
        endings, silent = [("s", "", 1), ("ing", "", 3), ("s", "", 2)], ["b", "a", "b"]
        self.refused(NoRule, Rulebook, endings, silent)
        self.assertEqual(endings, [("s", "", 1), ("ing", "", 3), ("s", "", 2)])
        self.assertEqual(silent, ["b", "a", "b"])

    def test_lists_changed_afterwards_change_nothing(self):
        endings, silent = list(GOOD_ENDINGS), list(GOOD_SILENT)
        book = Rulebook(endings, silent)
        endings.append(("a", "", 1))
        endings[0] = ("king", "", 1)
        del endings[1]
        silent.append("sea")
        silent[0] = "red"
        for _ in range(2):
            self.assertEqual([book.brought(run) for run in ["walking", "cats", "cities", "sea"]],
                             ["walk", "cat", "city", "sea"])
            self.assertEqual([book.is_silent(run) for run in ["the", "of", "sea", "red"]], [True, True, False, False])
        endings.clear()
        silent.clear()
        self.assertEqual(book.brought("cities"), "city")
        self.truth(book.is_silent("the"), True)

    def test_two_rulebooks_do_not_meet(self):
        one, other = Rulebook([("s", "", 1)], ["the"]), Rulebook([("ing", "", 1)], ["of"])
        self.assertEqual([one.brought("as"), other.brought("as"), other.brought("king")], ["a", "as", "k"])
        self.assertEqual([one.is_silent("of"), other.is_silent("of"), other.is_silent("the")], [False, True, False])


if __name__ == "__main__":
    unittest.main()
