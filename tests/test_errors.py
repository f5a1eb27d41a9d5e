"""The refusals of the interface."""

import unittest

from shownranks import errors

NAMES = [
    "NoRule", "NoName", "NoText", "Lacking", "NoMake", "NoAsking", "NoPath", "NoWeighing", "NoMany", "Over", "NoRow",
]


class Refusals(unittest.TestCase):
    def test_search_error_is_a_value_error_made_of_a_text(self):
        self.assertEqual(errors.SearchError.__bases__, (ValueError,))
        self.assertIsInstance(errors.SearchError("why"), ValueError)

    def test_there_are_eleven_unlike_classes(self):
        self.assertEqual(len({getattr(errors, name) for name in NAMES}), 11)

    def test_each_is_made_of_a_text_and_is_a_search_error(self):
        for name in NAMES:
            refusal = getattr(errors, name)("why it is refused")
            self.assertIsInstance(refusal, errors.SearchError)
            self.assertIsInstance(refusal, ValueError)

    def test_each_can_be_raised_and_caught_by_its_name_and_as_a_search_error(self):
        for name in NAMES:
            kind = getattr(errors, name)
            for caught in (kind, errors.SearchError, ValueError):
                with self.assertRaises(caught):
                    raise kind("why it is refused")

    def test_each_stands_straight_under_search_error(self):
        for name in NAMES:
            self.assertEqual(getattr(errors, name).__bases__, (errors.SearchError,), name)

    def test_none_is_one_of_the_others(self):
        for name in NAMES:
            refusal = getattr(errors, name)("why")
            for other in NAMES:
                self.assertEqual(isinstance(refusal, getattr(errors, other)), name == other, (name, other))

    def test_a_search_error_is_none_of_them(self):
        for name in NAMES:
            self.assertNotIsInstance(errors.SearchError("why"), getattr(errors, name))


if __name__ == "__main__":
    unittest.main()
