"""Promise [7]: bodies, check signs and completeness."""

import random
from types import SimpleNamespace

from brute import papers_upto
from handcarried.checks import Completion
from handcarried.errors import TooMany
from handcarried.series import Series
from handcarried.walks import Walk, standing_behind
from helpers import Case, example_series, free_series
from test_forms import some_form
from test_rules import some_rule

ANY = ("any",)


def slow_body(series, most):
    """The least open body of at most so many signs, with its check signs; None if there is none."""
    for paper in papers_upto(series.signs, most):
        if any(paper + sign in series.frame for sign in series.signs):
            checks = tuple(sign for sign in series.signs if paper + sign in series)
            if len(checks) != 1:
                return paper, checks
    return None


class TestCompletion(Case):
    def test_complete(self):
        for rule in (("sum", 10, (1, 3), 0), ("sum", 10, (7,), 9), ("sum", 10, (1, 3, 7, 9), 4)):
            told = Completion(free_series("all", "0123456789", rule))
            self.assertIs(bool(told), True)
            self.assertIsNone(told.body)

    def test_a_body_without_check_signs(self):
        told = Completion(free_series("all", "0123456789", ("sum", 11, (1,), 10)))
        self.assertIs(bool(told), False)
        # Nine is the greatest sign: behind the empty paper there is none for ten.
        self.same(told.body, ("", ()))
        # Behind 0, at the second place, a sign counts ten times: for 1 it would take the ten.
        self.same(Completion(free_series("all", "0123456789", ("sum", 11, (1, 10), 1))).body, ("0", ()))
        self.same(Completion(free_series("all", "012", ("sum", 4, (1,), 0))).body, ("1", ()))

    def test_a_body_with_several(self):
        self.same(Completion(free_series("all", "0123", ("sum", 4, (1, 2), 0))).body, ("0", ("0", "2")))
        self.same(Completion(free_series("all", "0123")).body, ("", ("0", "1", "2", "3")))
        self.same(Completion(free_series("all", "0123", ("not", ("sum", 4, (1,), 2)))).body, ("", ("0", "1", "3")))

    def test_the_form_tells_what_bodies_are(self):
        rule = ("sum", 4, (1, 3), 0)
        form = (("run", "a", "01", 2, 2), ("run", "b", "0123", 1, 1))
        self.same(Completion(Series("x", "0123", form, rule)).body, None)
        # The last sign is one of two: for some bodies none of them will do.
        form = (("run", "a", "01", 2, 2), ("run", "b", "02", 1, 1))
        self.same(Completion(Series("x", "0123", form, rule)).body, ("01", ()))
        # The body itself need not go on otherwise, and only its one sign more makes it a paper of the form.
        form = (("words", "a", ("012", "3")),)
        self.same(Completion(Series("x", "0123", form, ANY)).body, None)
        self.same(Completion(Series("x", "0123", form, ("sum", 4, (1,), 3))).body, None)
        self.same(Completion(Series("x", "0123", form, ("sum", 4, (1,), 0))).body, ("", ()))
        self.same(Completion(Series("x", "0123", (("words", "a", ("012", "013", "3")),), ANY)).body, ("01", ("2", "3")))

    def test_bounded_lengths(self):
        form = (("run", "a", "01", 1, 3),)
        self.same(Completion(Series("x", "01", form, ("sum", 2, (1,), 0))).body, None)
        self.same(Completion(Series("x", "01", form, ("sum", 2, (1, 0), 0))).body, ("0", ("0", "1")))
        self.same(Completion(Series("x", "01", form, ("sum", 3, (1,), 0))).body, ("1", ()))
        form = (("run", "a", "0", 0, 4), ("run", "b", "1", 1, 2), ("words", "c", ("00", "1")))
        series = Series("x", "01", form, ("sum", 2, (1,), 1))
        self.same(Completion(series).body, slow_body(series, 8))

    def test_without_numbers(self):
        none = free_series("all", "01", ("not", ANY))
        self.same(Completion(none).body, ("", ()))
        self.assertIs(bool(Completion(none)), False)
        form = (("run", "a", "0", 2, 2),)
        self.same(Completion(Series("x", "01", form, ("sum", 2, (0,), 1))).body, ("0", ()))

    def test_without_bodies(self):
        # Each form lets some paper by that is not empty, so this is no series that could be made.
        walk = Walk("01", ((1, 1), (1, 1)), (0,))
        told = Completion(SimpleNamespace(signs="01", frame=walk, walk=walk))
        self.assertIs(bool(told), True)
        self.assertIsNone(told.body)
        self.same(Completion(Series("x", "01", (("run", "a", "0", 0, 1),), ANY)).body, None)

    def test_the_example(self):
        told = Completion(example_series())
        self.same(told.body, slow_body(example_series(), 4))

    def test_long_bodies(self):
        # Sixty zeros ahead of the last sign, for which there are two.
        form = tuple(("run", name, "0", 12, 12) for name in "abcde") + (("words", "f", ("0", "1")),)
        self.same(Completion(Series("x", "01", form, ANY)).body, ("0" * 60, ("0", "1")))
        form = tuple(("run", name, "0", 12, 12) for name in "abcde") + (("words", "f", ("100", "101")),)
        self.same(Completion(Series("x", "01", form, ANY)).body, ("0" * 60 + "10", ("0", "1")))
        form = tuple(("run", name, "01", 12, 12) for name in "abcdef")
        # A number has a 1 and 72 signs: of all bodies only that of zeros alone has just one check sign.
        series = Series("x", "01", form, ("square", ((0, 1), (1, 1)), (1,)))
        self.same(Completion(series).body, ("0" * 70 + "1", ("0", "1")))

    def test_against_a_slow_look(self):
        dice = random.Random(53)
        done = 0
        while done < 120:
            try:
                series = Series("x", "01", some_form(dice, "01"), some_rule(dice, "01", 1))
            except TooMany:
                continue
            done += 1
            told = Completion(series)
            slow = slow_body(series, 7)
            if slow is not None or told.body is None:
                self.same(told.body, slow)
            else:
                body, checks = told.body
                self.assertGreater(len(body), 7)
                self.assertNotEqual(len(checks), 1)
                behind = standing_behind(series.walk, body, 0)
                self.assertEqual(checks, tuple(sign for sign, to in zip("01", series.walk[behind])
                                               if to in series.walk.goals))
            self.assertIs(bool(told), told.body is None)
