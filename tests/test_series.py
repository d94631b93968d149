"""Promise [7]: series, their numbers and check signs."""

import random

from brute import papers_upto, readings_of, right_by
from handcarried.errors import BadForm, BadName, BadPaper, BadRule, BadSigns, TooMany, Twice
from handcarried.forms import form_walk
from handcarried.rules import rule_walk
from handcarried.series import Series
from handcarried.walks import Walk
from helpers import ODD_THINGS, Case, example_series, free_series
from test_forms import some_form
from test_rules import some_rule

RUN = ("run", "part", "01", 0, None)
ANY = ("any",)
WIDE_FORM = (("run", "a", "01", 0, None), ("words", "b", ("1",)), ("run", "c", "01", 7, 7))
WIDE_RULE = ("sum", 59, (1, 3, 7), 0)


class TestMaking(Case):
    def test_the_order_of_the_errors(self):
        forty = ANY
        for _ in range(40):
            forty = ("not", forty)
        self.raises(BadName, {"name": "X"}, Series, "X", "10", (), ())
        self.raises(BadSigns, {"signs": "10"}, Series, "x", "10", (), ())
        self.raises(BadForm, {"field": -1}, Series, "x", "01", (), ())
        self.raises(BadForm, {"field": 2}, Series, "x", "01", (RUN, RUN, 1), ())
        self.raises(Twice, {"name": "part"}, Series, "x", "01", (RUN, RUN), ())
        rule = ["no"]
        self.raises(BadRule, {"rule": rule}, Series, "x", "01", WIDE_FORM, ["not", rule])
        self.raises(TooMany, {"what": "rule"}, Series, "x", "01", WIDE_FORM, forty)
        self.raises(TooMany, {"what": "standing"}, Series, "x", "01", WIDE_FORM, ANY)
        self.raises(TooMany, {"what": "standing"}, Series, "x", "01", (RUN,), WIDE_RULE)

    def test_too_many_standings_of_the_series(self):
        def series(form, rule):
            return Series("x", "01", form, rule)

        long = tuple(("run", name, "01", 12, 12) for name in "abcdef")
        self.assertEqual(len(series(long, ANY).walk), 74)
        self.raises(TooMany, {"what": "standing"}, series, long, ("sum", 50, (1, 3, 7), 9))
        # Walks of the form and of the rule may each be large where the walk of the series is not.
        zeros = tuple(("run", name, "0", 12, 12) for name in "abcdef")
        none = series(zeros, ("sum", 50, (1, 3, 7), 9))
        self.assertEqual((len(none.frame), len(none.walk)), (74, 1))

    def test_a_form_or_a_rule_with_too_many_goes_ahead_of_what_is_left_of_both(self):
        self.raises(TooMany, {"what": "standing"}, Series, "x", "01", WIDE_FORM, ("not", ANY))
        self.raises(TooMany, {"what": "standing"}, Series, "x", "01", (("run", "a", "0", 1, 1),), WIDE_RULE)

    def test_what_it_tells(self):
        series = example_series()
        self.assertEqual((series.name, series.signs), ("member", "0123"))
        self.same(series.form, (("run", "branch", "01", 1, 1), ("run", "serial", "0123", 1, None)))
        self.same(series.rule, ("both", ("sum", 4, (1, 3), 0), ("not", ("square", ((1, 0, 0, 0), (1, 1, 1, 1)),
                                                                       (1,)))))
        self.assertEqual(series.frame, form_walk("0123", series.form))
        self.assertEqual(series.walk, series.frame & rule_walk("0123", series.rule))

    def test_lists_are_kept_as_tuples(self):
        form, rule = [["words", "a", ["0", "1"]]], ["both", ["any"], ["sum", 2, [1], 0]]
        series = Series("x", "01", form, rule)
        form[0][2].append("00")
        rule[2][2] = [0]
        self.same(series.form, (("words", "a", ("0", "1")),))
        self.same(series.rule, ("both", ("any",), ("sum", 2, (1,), 0)))
        self.assertEqual(series, Series("x", "01", (("words", "a", ("0", "1")),), series.rule))


class TestNumbers(Case):
    def test_against_a_slow_look(self):
        dice = random.Random(17)
        papers = papers_upto("012", 4)
        for _ in range(60):
            form, rule = some_form(dice, "012"), some_rule(dice, "012", 2)
            series = Series("x", "012", form, rule)
            right = {paper for paper in papers + papers_upto("012", 5) if readings_of(form, paper)
                     and right_by("012", rule, paper)}
            for paper in papers:
                self.assertIs(paper in series, paper in right)
                self.assertEqual(series.walk.right(paper), paper in right)
                self.same(series.check_signs(paper), tuple(sign for sign in "012" if paper + sign in right))
            if right:
                self.assertIs(bool(series), True)

    def test_the_example(self):
        series = example_series()
        # The branch, then no 0 at all, and a sum of 4, 8, 12, ..
        for paper, wanted in (("", False), ("0", False), ("11", True), ("00", False), ("1", False), ("011", False),
                              ("121", True), ("131", False), ("132", True), ("103", False), ("21", False)):
            self.assertIs(paper in series, wanted, paper)
        self.same(series.check_signs("1"), ("1",))
        self.same(series.check_signs("13"), ("2",))
        self.same(series.check_signs("10"), ())
        self.same(series.check_signs(""), ())
        self.same(series.check_signs("3"), ())

    def test_in_takes_any_thing(self):
        series = free_series(signs="01")
        for thing in (*ODD_THINGS, "2", "0" * 61, ["0"], ("0", "1")):
            self.assertIs(thing in series, thing in ("", "01"), thing)
        self.assertIs("0" * 60 in series, True)

    def test_check_signs(self):
        series = free_series(signs="01", rule=("sum", 2, (1,), 0))
        self.same(series.check_signs("0" * 60), ("0",))
        self.same(series.check_signs("0" * 59 + "1"), ("1",))
        self.same(free_series(signs="01").check_signs("1"), ("0", "1"))
        self.same(free_series(signs="01", rule=("not", ANY)).check_signs("1"), ())
        for paper in ("0" * 61, "2", 0, ["0"], None):
            self.raises(BadPaper, {"paper": paper}, series.check_signs, paper)

    def test_bool(self):
        self.assertIs(bool(free_series()), True)
        self.assertIs(bool(free_series(rule=("not", ANY))), False)
        self.assertIs(bool(Series("x", "01", (("run", "a", "01", 3, 4),), ("sum", 7, (1,), 6))), False)

    def test_equal(self):
        series = Series("x", "01", (RUN,), ANY)
        self.assertTrue(series == Series("x", "01", [list(RUN)], ["any"]))
        for other in (Series("y", "01", (RUN,), ANY), Series("x", "012", (RUN,), ANY),
                      Series("x", "01", (("run", "other", "01", 0, None),), ANY),
                      Series("x", "01", (RUN,), ("not", ("not", ANY))), *ODD_THINGS, series.walk, "x"):
            self.assertIs(series == other, False)
            self.assertIs(series != other, True)
        # Equally many numbers make no equal series.
        self.assertEqual(series.walk, Walk.everything("01"))
        self.assertEqual(Series("x", "01", (RUN,), ("not", ("not", ANY))).walk, Walk.everything("01"))
