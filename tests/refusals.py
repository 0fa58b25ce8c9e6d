"""A test case that looks at the class of a refusal and at those above it."""

import unittest

from guessroom.errors import AskError


class RefusalTest(unittest.TestCase):
    def assert_refused(self, kind, function, *handed):
        try:
            told = function(*handed)
        except ValueError as error:
            self.assertIs(type(error), kind, handed)
            self.assertIsInstance(error, AskError)
        else:
            self.fail(f"{function} told {told!r} for {handed!r}")

    def assert_own_list(self, function, *handed):
        """What is told is a list, and stays what it was when another one told is emptied."""
        kept = function(*handed)
        self.assertIs(type(kept), list)
        before = list(kept)
        other = function(*handed)
        self.assertIsNot(other, kept)
        other.clear()
        other.append("more")
        self.assertEqual(kept, before)
        self.assertEqual(function(*handed), before)
