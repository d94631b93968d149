"""Promise [6]: forms that are clear, and the least doubtful paper of those that are not."""

import random

from brute import papers_upto, readings_of
from handcarried.clear import Clear
from handcarried.errors import BadForm, BadSigns, TooMany, Twice
from handcarried.forms import form_walk
from helpers import Case
from test_forms import some_form


def run(name, allowed="01", least=0, most=None):
    return ("run", name, allowed, least, most)


def words(name, *told):
    return ("words", name, told)


class TestClear(Case):
    def clear(self, signs, *fields):
        told = Clear(signs, fields)
        self.assertIs(bool(told), True)
        self.assertIsNone(told.doubtful)

    def doubtful(self, paper, signs, *fields):
        told = Clear(signs, list(fields))
        self.assertIs(bool(told), False)
        self.same(told.doubtful, paper)
        if len(paper) <= 12:
            self.assertGreater(len(readings_of(fields, paper)), 1)

    def test_one_field(self):
        self.clear("01", run("a"))
        self.clear("01", run("a", "1", 3, 5))
        self.clear("01", words("a", "0", "01", "011", "1"))
        self.clear("0123456789AB", words("a", *"0123456789AB"))

    def test_two_fields(self):
        self.doubtful("0", "01", run("a"), run("b"))
        self.doubtful("000", "01", run("a", "01", 1, None), run("b", "0", 1, None))
        self.clear("01", run("a", "0"), run("b", "1"))
        self.clear("01", run("a", "01", 3, 3), run("b"))
        self.doubtful("000", "01", words("a", "00", "0"), words("b", "0", "00"))
        self.doubtful("101", "01", words("a", "10", "1"), words("b", "1", "01"))
        self.clear("01", words("a", "0", "10"), words("b", "0", "10", "11"))
        self.doubtful("01", "01", run("a", "0"), words("b", "01", "1"))

    def test_the_least_of_several(self):
        # Doubtful are 011, 0011 and others; and 10, which has fewer signs.
        self.doubtful("10", "01", words("a", "0", "011", "10", "1"), run("b", "01", 0, 1))
        self.doubtful("0100", "01", words("a", "01", "0100", "110", "1101"), words("b", "00", "1", "0", "0001"),
                      run("c", "0", 0, 1))
        self.doubtful("00", "01", run("a", "01", 1, None), run("b", "01", 0, None))
        self.doubtful("11", "01", run("a", "1", 1, None), run("b", "01", 0, None))

    def test_six_fields(self):
        self.clear("012345", *[run(name, sign) for name, sign in zip("abcdef", "012345")])
        self.clear("01", *[run(name, "01", 2, 2) for name in "abcdef"])
        self.clear("01", *[run(name, "01", 2, 2) for name in "abcde"], run("f"))
        self.doubtful("0", "01", *[run(name) for name in "abcdef"])
        self.doubtful("00000000000", "01", *[run(name, "01", 2, 2) for name in "abcd"], run("e", "01", 1, None),
                      run("f", "0", 1, 2))
        signs = "0123456789AB"
        self.doubtful("0" * 9, signs, run("a", signs, 0, 12), run("b", signs, 0, 12),
                      *[run(name, signs, 2, 12) for name in "cdef"])

    def test_parts_that_may_be_empty(self):
        self.doubtful("0", "01", run("a", "0", 0, 1), run("b", "1", 0, 1), run("c", "0", 0, 1))
        self.clear("01", run("a", "0", 0, 1), run("b", "1", 1, 1), run("c", "0", 0, 1))

    def test_readings_that_part_and_meet_again(self):
        self.doubtful("0001", "01", words("a", "0", "00"), words("b", "0", "00"), words("c", "1"))
        self.doubtful("0" * 3 + "1" * 13, "01", words("a", "0", "00"), words("b", "0", "00"), run("c", "1", 12, 12),
                      words("d", "1"))

    def test_long_papers(self):
        twelves = [run(name, "01", 12, 12) for name in "abcd"]
        self.doubtful("0" * 49, "01", *twelves, run("e", "01", 0, 1), run("f", "0", 0, 1))
        self.doubtful("0" * 73, "01", *twelves, run("e", "01", 12, None), run("f", "0", 12, None))
        self.clear("01", *twelves, run("e", "0", 12, None), run("f", "1", 12, None))
        self.clear("01", *twelves, run("e", "01", 12, 12), run("f", "01", 12, None))

    def test_the_order_of_the_errors(self):
        wide = (run("a"), words("b", "1"), run("c", "01", 7, 7))
        self.raises(BadSigns, {"signs": "10"}, Clear, "10", ())
        self.raises(BadForm, {"field": -1}, Clear, "01", ())
        self.raises(BadForm, {"field": -1}, Clear, "01", None)
        self.raises(BadForm, {"field": 1}, Clear, "01", (run("a"), run("a", "2"), 5))
        self.raises(Twice, {"name": "a"}, Clear, "01", (*wide, run("a")))
        self.raises(TooMany, {"what": "standing"}, Clear, "01", wide)
        self.raises(TooMany, {"what": "standing"}, form_walk, "01", wide)

    def test_what_is_passed_stays(self):
        form = [["run", "a", "01", 0, None], ["words", "b", ["1", "01"]]]
        self.assertEqual(Clear("01", form).doubtful, "01")
        self.assertEqual(form, [["run", "a", "01", 0, None], ["words", "b", ["1", "01"]]])

    def test_against_a_slow_look(self):
        dice = random.Random(59)
        for signs, most in (("01", 7), ("012", 5)):
            papers = papers_upto(signs, most)
            for _ in range(100):
                form = some_form(dice, signs)
                told = Clear(signs, form)
                slow = next((paper for paper in papers if len(readings_of(form, paper)) > 1), None)
                self.assertIs(bool(told), told.doubtful is None)
                if slow is not None or told.doubtful is None:
                    self.same(told.doubtful, slow)
                else:
                    self.assertGreater(len(told.doubtful), most)
                    self.assertGreater(len(readings_of(form, told.doubtful)), 1)
