"""What the tests share: how an error is looked at, and a few series and hands."""

import unittest

from handcarried.hands import Hand
from handcarried.series import Series
from handcarried.walks import Walk

ODD_THINGS = (None, True, False, 5, -1, "", "01", b"01", (), [], {}, set(), (1, 2), 0.5, object(), len)


class Case(unittest.TestCase):
    """A test case that can look at an error."""

    def raises(self, kind, told, call, *args, **keys):
        """Calling raises an error of this very class; told are its attributes, the same things, not only equal ones."""
        try:
            call(*args, **keys)
        except Exception as error:
            self.assertIs(error.__class__, kind, error)
            for name, value in told.items():
                self.assertTrue(getattr(error, name) is value or (
                    getattr(error, name) == value and getattr(error, name).__class__ is value.__class__
                    and isinstance(value, (int, str))), (name, getattr(error, name), value))
            return
        self.fail(f"{kind.__name__} was not raised")

    def same(self, told, wanted):
        """Equal, and of the same kinds throughout: a list is no tuple, and True is not 1."""
        self.assertEqual(told, wanted)
        self.assertEqual(repr(told), repr(wanted))


def example_series(name="member"):
    """The series of the example of the document."""
    return Series(name, "0123", (("run", "branch", "01", 1, 1), ("run", "serial", "0123", 1, None)),
                  ("both", ("sum", 4, (1, 3), 0), ("not", ("square", ((1, 0, 0, 0), (1, 1, 1, 1)), (1,)))))


def example_hand(name="phone"):
    """The hand of the example of the document."""
    return Hand(name, "0123", (("swap", 1, (("xy", "yx"),)), ("lost", 2, (("x", ""), ("xx", "x")))))


def free_series(name="all", signs="0123", rule=("any",)):
    """A series whose form lets all papers by."""
    return Series(name, signs, (("run", "part", signs, 0, None),), rule)


def counter(signs, many, goals=(0,)):
    """The walk that counts the signs of a paper, round and round; it has as many standings if there is one goal."""
    return Walk(signs, tuple(((at + 1) % many,) * len(signs) for at in range(many)), goals)
