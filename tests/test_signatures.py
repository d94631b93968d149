"""Promises [10] and [33]: signatures, rules that fit, and all signatures that papers of a frame show."""

import random

from brute import key_of, led, papers_upto, right_by, slow_table
from handcarried.errors import BadPaper, BadRule, BadSigns, TooMany
from handcarried.rules import rule_walk
from handcarried.signatures import Signatures, fitting, signature_of
from handcarried.walks import Walk
from helpers import ODD_THINGS, Case, counter
from test_crossings import rounds
from test_rules import some_rule

ANY = ("any",)
NONE = ("not", ANY)
EVEN = ("sum", 2, (1,), 0)
LARGE = ("sum", 60, (1, 2, 3), 0)


class SlowShown:
    """The table of a frame and some rules, word by word."""

    def __init__(self, frame, rules):
        self.frame, self.walks = frame, [rule_walk(frame.signs, rule) for rule in rules]
        self.beginning = (0, (0,) * len(rules))

    def left_out(self, entry):
        return self.frame.least_paper(entry[0]) is None

    def steps(self, entry):
        return [(led(self.frame, entry[0], sign), tuple(led(walk, at, sign) for walk, at in zip(self.walks, entry[1])))
                for sign in self.frame.signs]


def small_rule(dice, signs):
    while True:
        rule = some_rule(dice, signs, 1)
        try:
            if len(rule_walk(signs, rule)) <= 8:
                return rule
        except TooMany:
            continue


class TestSignatureOf(Case):
    def test_a_flag_for_each_rule(self):
        rules = (EVEN, ANY, NONE, ("sum", 3, (1,), 1))
        self.same(signature_of("01", rules, "1"), (0, 1, 0, 1))
        self.same(signature_of("01", rules, ""), (1, 1, 0, 0))
        self.same(signature_of("01", list(rules), "1111"), (1, 1, 0, 1))
        self.same(signature_of("01", (EVEN,), "1" * 60), (1,))
        # Rules whose walk would be too large have a meaning all the same.
        self.same(signature_of("01", (LARGE, NONE, ANY, EVEN, EVEN), "0"), (1, 0, 1, 1, 1))

    def test_errors(self):
        self.raises(BadSigns, {"signs": "10"}, signature_of, "10", (5,), None)
        bad = ("both", EVEN, ("sum", 1, (0,), 0))
        self.raises(BadRule, {"rule": bad[2]}, signature_of, "01", (EVEN, bad, 5), None)
        many = EVEN
        for _ in range(40):
            many = ("not", many)
        self.raises(TooMany, {"what": "rule"}, signature_of, "01", (EVEN, many, 5), None)
        for paper in (*[thing for thing in ODD_THINGS if thing not in ("", "01")], "2", "0" * 61):
            self.raises(BadPaper, {"paper": paper}, signature_of, "01", (EVEN, ANY), paper)


class TestFitting(Case):
    def test_what_was_seen(self):
        rules = (EVEN, ANY, NONE, ("not", EVEN))
        self.same(fitting("01", rules, ()), (0, 1, 2, 3))
        self.same(fitting("01", rules, (("1", 1),)), (1, 3))
        self.same(fitting("01", rules, (("1", 0),)), (0, 2))
        self.same(fitting("01", rules, (("1", 1), ("11", 1))), (1,))
        self.same(fitting("01", rules, [["1", 1], ["11", 0], ["", 0]]), (3,))
        self.same(fitting("01", rules, (("1", 1), ("1", 0))), ())

    def test_errors(self):
        self.raises(BadSigns, {"signs": ""}, fitting, "", (5,), ((None, 0),))
        self.raises(BadRule, {"rule": 5}, fitting, "01", (EVEN, 5), ((None, 0),))
        self.raises(BadPaper, {"paper": "2"}, fitting, "01", (EVEN, ANY), (("0", 0), ("2", 0), (None, 1)))
        self.raises(BadPaper, {"paper": "0" * 61}, fitting, "01", (EVEN,), (("1", 1), ("0" * 61, 0)))

    def test_against_meanings(self):
        dice = random.Random(337)
        papers = papers_upto("01", 3)
        for _ in range(150):
            rules = tuple(small_rule(dice, "01") for _ in range(dice.randrange(1, 6)))
            paper = dice.choice(papers)
            self.same(signature_of("01", rules, paper), tuple(int(right_by("01", rule, paper)) for rule in rules))
            seen = tuple((dice.choice(papers), dice.randrange(2)) for _ in range(dice.randrange(4)))
            self.same(fitting("01", rules, seen), tuple(
                k for k, rule in enumerate(rules) if all(right_by("01", rule, one) == (flag == 1) for one, flag in seen)))


class TestSignatures(Case):
    def test_what_is_shown(self):
        frame = Walk.everything("01")
        told = Signatures(frame, (EVEN, ANY, ("not", EVEN), ("sum", 3, (1,), 0)))
        self.same(told.shown, (((1, 1, 0, 1), ""), ((0, 1, 1, 0), "1"), ((1, 1, 0, 0), "11"), ((0, 1, 1, 1), "111")))
        self.same(told.table, tuple((0, (k, 0, k, rest)) for k in range(2) for rest in range(3)))
        self.same(Signatures(frame, [EVEN]).shown, (((1,), ""), ((0,), "1")))

    def test_frames_without_papers_and_with_one(self):
        none = Walk("01", ((0, 0),), ())
        self.same((Signatures(none, (EVEN, ANY)).table, Signatures(none, (EVEN, ANY)).shown), ((), ()))
        one = Walk("01", ((1, 1), (2, 3), (3, 3), (3, 3)), (2,))
        told = Signatures(one, (EVEN, ANY))
        self.same(told.shown, (((1, 1), "00"), ((0, 1), "10")))
        one = rounds(3).walk & rule_walk("01", ("square", ((1, 4), (2, 4), (3, 4), (4, 4), (4, 4)), (3,)))
        told = Signatures(one, (EVEN, NONE))
        self.same(told.shown, (((1, 0), "000"),))
        self.same(len(told.table), 4)

    def test_errors(self):
        frame = Walk.everything("01")
        self.raises(BadRule, {"rule": 5}, Signatures, frame, (EVEN, 5, LARGE))
        self.raises(TooMany, {"what": "standing"}, Signatures, frame, (EVEN, LARGE, 5))
        self.raises(BadRule, {"rule": ("sum", 1, (0,), 0)}, Signatures, frame, (("not", ("sum", 1, (0,), 0)), LARGE))

    def test_two_thousand_entries(self):
        told = Signatures(counter("01", 125), (rounds(16).rule,))
        self.assertEqual(len(told.table), 2000)
        self.same(told.table, slow_table(SlowShown(counter("01", 125), (rounds(16).rule,))))
        self.same(told.shown, (((1,), ""), ((0,), "0" * 125)))
        rules = (rounds(23).rule, rounds(29).rule)
        self.assertEqual(len(slow_table(SlowShown(counter("01", 3), rules))), 2001)
        self.raises(TooMany, {"what": "entry"}, Signatures, counter("01", 3), rules)

    def test_against_slow_looks(self):
        dice = random.Random(347)
        for _ in range(150):
            frame = rule_walk("01", small_rule(dice, "01"))
            rules = tuple(small_rule(dice, "01") for _ in range(dice.randrange(1, 6)))
            table = slow_table(SlowShown(frame, rules), 2000)
            if table is None:
                self.raises(TooMany, {"what": "entry"}, Signatures, frame, rules)
                continue
            told = Signatures(frame, rules)
            self.same(told.table, table)
            found = {}
            for paper in papers_upto("01", 6):
                if paper in frame:
                    found.setdefault(signature_of("01", rules, paper), paper)
            shown = dict(told.shown)
            self.assertEqual(len(shown), len(told.shown))
            self.assertEqual([paper for _, paper in told.shown], sorted(shown.values(), key=key_of))
            self.assertEqual({row: paper for row, paper in shown.items() if len(paper) <= 6}, found)
            for row, paper in shown.items():
                self.assertTrue(led(frame, 0, paper) in frame.goals)
                self.same(row, tuple(int(right_by("01", rule, paper)) for rule in rules))
