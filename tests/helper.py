"""What the tests of the project share."""

import copy
import unittest


def lists_in(value):
    """All lists in a value, itself included, as often as they stand in it."""
    if not isinstance(value, (list, tuple)):
        return []
    found = [value] if isinstance(value, list) else []
    for item in value:
        found.extend(lists_in(item))
    return found


def spoil(value):
    """Change every list in a value."""
    for told in lists_in(value):
        told.insert(0, 77)


class AskCase(unittest.TestCase):
    """A test case that asks functions as point 2 of the document lets them be asked."""

    def ask(self, function, *handed):
        """The answer, once it is sure that point 2 holds for it."""
        # The texts tell True from 1 and a list from a tuple, as == does not.
        before = repr(handed)
        fresh = copy.deepcopy(handed)
        # What is handed in is spoiled below: the test keeps its own.
        handed = copy.deepcopy(handed)
        told = function(*handed)
        self.assertEqual(repr(handed), before, "what was handed in was changed")
        kept = copy.deepcopy(told)
        self.check_own(told, handed)
        spoil(told)
        self.assertEqual(repr(handed), before, "the answer holds what was handed in")
        again = function(*handed)
        self.assertEqual(repr(again), repr(kept), "the answer hangs on an earlier one")
        spoil(handed)
        self.assertEqual(repr(again), repr(kept), "the answer hangs on what was handed in")
        self.assertEqual(repr(function(*fresh)), repr(kept), "the same is answered otherwise")
        return kept

    def check_own(self, told, handed):
        """Each told list stands at one place alone, and is none that was handed in."""
        marks = [id(one) for one in lists_in(told)]
        self.assertEqual(len(marks), len(set(marks)), "a told list stands at two places")
        others = [id(one) for one in lists_in(handed)]
        self.assertFalse(set(marks) & set(others), "a told list was handed in")

    def told(self, expected, function, *handed):
        """Ask, and hold the answer against what is expected, kinds of values included."""
        self.assertEqual(repr(self.ask(function, *handed)), repr(expected))

    def refused(self, error, function, *handed):
        """The refusal, once it is sure that it is of this very class and changed nothing."""
        before = repr(handed)
        with self.assertRaises(error) as caught:
            function(*handed)
        self.assertIs(caught.exception.__class__, error)
        self.assertEqual(repr(handed), before)
        return caught.exception
