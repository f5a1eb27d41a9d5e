"""What several test files need."""

import unittest


class Checks(unittest.TestCase):
    """A test case with the checks that several files share."""

    maxDiff = None

    def same(self, told, wanted):
        """Alike in worth and in kind, all the way down: True is no 1, and a list no tuple."""
        self.assertEqual(told, wanted)
        self.assertEqual(repr(told), repr(wanted))

    def refused(self, kind, call, *handed):
        """The call is refused, and with this class."""
        with self.assertRaises(kind, msg=f"{call} of {handed!r}"):
            call(*handed)

    def truth(self, told, wanted):
        """True or False itself, not merely something that counts as it."""
        self.assertIs(told, wanted)

    def listed_methods(self, kind, names):
        """Each method stands in the class itself."""
        for name in names:
            self.assertTrue(callable(vars(kind).get(name)), f"{kind.__name__}.{name}")
