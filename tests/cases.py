"""What many tests ask: the error of the first bad parameter, and that nothing passed is changed."""

import copy
import unittest


class Case(unittest.TestCase):

    def raised(self, error, function, /, *told, **named):
        """The error that the call raises, of just this class."""
        with self.assertRaises(error) as held:
            function(*told, **named)
        self.assertIs(type(held.exception), error)
        return held.exception

    def refused(self, error, value, function, /, *told, **named):
        """The call raises the error with the value that was passed."""
        got = self.raised(error, function, *told, **named)
        self.assertIs(type(got.value), type(value), repr(value))
        self.assertEqual(got.value, value)

    def judged(self, wanted, value, function, /, *told, **named):
        """The call returns just this bool."""
        self.assertIs(function(*told, **named), wanted, repr(value))

    def told(self, function, /, **named):
        """What the call returns, by names, by position and once more, with nothing changed."""
        kept = copy.deepcopy(named)
        first = function(**named)
        self.assertEqual(function(*named.values()), first)
        self.assertEqual(function(**named), first)
        self.assertEqual(named, kept)
        self.assertEqual(repr(named), repr(kept))
        return first

    def same(self, got, wanted):
        """Equal, and of the same kinds all through."""
        self.assertEqual(repr(got), repr(wanted))
