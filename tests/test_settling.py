"""Promise [34]: lots of rules, settling papers, values and plans of trials."""

import random
from itertools import combinations

from handcarried.alike import Alike
from handcarried.errors import BadAnswer, BadRule, TooMany
from handcarried.rules import rule_walk
from handcarried.settling import Settling
from handcarried.signatures import Signatures, fitting
from handcarried.walks import Walk
from helpers import ODD_THINGS, Case, counter
from test_crossings import rounds
from test_signatures import ANY, EVEN, LARGE, NONE, small_rule

ALL = Walk.everything("01")
ODD = ("not", EVEN)


def slow_lots(frame, rules):
    """The lots of rules that are alike within a frame."""
    walks = [rule_walk(frame.signs, rule) for rule in rules]
    lots = []
    for number, walk in enumerate(walks):
        for lot in lots:
            if Alike(walks[lot[0]], walk, frame=frame):
                lot.append(number)
                break
        else:
            lots.append([number])
    return tuple(tuple(lot) for lot in lots)


def slow_papers(lots, shown):
    """The settling papers, by trying all ways."""
    for many in range(len(shown) + 1):
        for rows in combinations(shown, many):
            if len({tuple(row[lot[0]] for row, _ in rows) for lot in lots}) == len(lots):
                return tuple(paper for _, paper in rows)
    return None


def slow_plan(lots, shown):
    """The value and the plan with these lots open."""
    if len(lots) == 1:
        return 0, ("settled", lots[0])
    best = None
    for row, paper in shown:
        wrong = [lot for lot in lots if row[lot[0]] == 0]
        right = [lot for lot in lots if row[lot[0]] == 1]
        if wrong and right:
            one, other = slow_plan(wrong, shown), slow_plan(right, shown)
            value = 1 + max(one[0], other[0])
            if best is None or value < best[0]:
                best = (value, ("try", paper, one[1], other[1]))
    return best


class TestSettling(Case):
    def test_rules_that_are_all_alike(self):
        told = Settling(ALL, (ODD, ("sum", 2, (1,), 1), ("both", ANY, ODD)))
        self.same((told.lots, told.papers, told.value), (((0, 1, 2),), (), 0))
        self.same((told.plan(), told.led(())), (("settled", (0, 1, 2)),) * 2)
        # Within the frame they are alike, though not for all papers.
        told = Settling(counter("01", 2), (("sum", 2, (1,), 0), ("sum", 2, (1,), 0)))
        self.same(told.lots, ((0, 1),))
        zeros = rule_walk("01", ("square", ((0, 1), (1, 1)), (0,)))
        self.same(Settling(zeros, (EVEN, ANY, NONE, ODD)).lots, ((0, 1), (2, 3)))

    def test_one_rule(self):
        told = Settling(ALL, (EVEN,))
        self.same((told.lots, told.papers, told.value, told.plan()), (((0,),), (), 0, ("settled", (0,))))

    def test_a_frame_without_papers(self):
        told = Settling(Walk("01", ((0, 0),), ()), (EVEN, ANY, NONE))
        self.same((told.lots, told.papers, told.value, told.plan()), (((0, 1, 2),), (), 0, ("settled", (0, 1, 2))))

    def test_the_fewest_and_the_first_papers(self):
        told = Settling(ALL, (EVEN, ANY, ("sum", 2, (1,), 0), ("sum", 3, (1,), 0)))
        self.same(told.lots, ((0, 2), (1,), (3,)))
        self.same(told.papers, ("1", "11"))
        self.same(told.value, 2)
        self.same(told.plan(), ("try", "1", ("try", "11", ("settled", (3,)), ("settled", (0, 2))), ("settled", (1,))))
        # Two rules are told apart by the first paper that does.
        self.same(Settling(ALL, (EVEN, ODD)).papers, ("",))
        self.same(Settling(ALL, (EVEN, ANY)).papers, ("1",))
        # Both papers of these are needed, and of three that would do the first two.
        told = Settling(ALL, (EVEN, ODD, ANY, NONE))
        self.same((told.lots, told.papers, told.value), (((0,), (1,), (2,), (3,)), ("", "1"), 2))
        self.same(told.plan(), ("try", "", ("try", "1", ("settled", (3,)), ("settled", (1,))),
                                ("try", "1", ("settled", (0,)), ("settled", (2,)))))

    def test_fewer_trials_one_after_the_other(self):
        rules = tuple(("sum", 7, (1,), goal) for goal in range(5))
        told = Settling(ALL, rules)
        # Each paper is right by one rule alone.
        self.same(told.papers, tuple("1" * k for k in range(4)))
        self.same(told.value, 4)
        self.same(told.plan()[3], ("settled", (0,)))

    def test_errors(self):
        self.raises(BadRule, {"rule": 5}, Settling, ALL, (EVEN, 5, LARGE))
        self.raises(TooMany, {"what": "standing"}, Settling, ALL, (EVEN, LARGE, 5))
        self.raises(TooMany, {"what": "entry"}, Settling, counter("01", 3), (rounds(23).rule, rounds(29).rule))
        self.assertEqual(Settling(counter("01", 125), (rounds(16).rule,)).value, 0)

    def test_against_slow_looks(self):
        dice = random.Random(349)
        seen = []
        for _ in range(200):
            frame = dice.choice([ALL, rule_walk("01", small_rule(dice, "01"))])
            rules = tuple(small_rule(dice, "01") for _ in range(dice.randrange(1, 6)))
            try:
                shown = Signatures(frame, rules).shown
            except TooMany:
                self.raises(TooMany, {"what": "entry"}, Settling, frame, rules)
                continue
            told = Settling(frame, rules)
            lots = slow_lots(frame, rules)
            self.same(told.lots, lots)
            self.same(told.papers, slow_papers(lots, shown))
            self.same((told.value, told.plan()), slow_plan(lots, shown))
            self.follow(told, told.plan(), (), rules)
            seen.append((len(lots), told.value))
        self.assertLessEqual({(1, 0), (2, 1), (3, 2)}, set(seen))

    def follow(self, told, plan, flags, rules):
        """Each flag leads on in the plan, and what is settled fits what was seen."""
        self.same(told.led(flags), plan)
        if plan[0] == "try":
            self.follow(told, plan[2], (*flags, 0), rules)
            self.follow(told, plan[3], [*flags, 1], rules)
            return
        seen = []
        here = told.plan()
        for flag in flags:
            seen.append((here[1], flag))
            here = here[2 + flag]
        if seen and all(len(paper) <= 60 for paper, _ in seen):
            self.same(fitting("01", rules, tuple(seen)), plan[1])


class TestLed(Case):
    def setUp(self):
        self.told = Settling(ALL, (EVEN, ANY, ("sum", 3, (1,), 0)))

    def test_flags(self):
        self.same(self.told.led(()), self.told.plan())
        self.same(self.told.led((0,)), self.told.plan()[2])
        self.same(self.told.led([0, 1]), ("settled", (0,)))
        self.same(self.told.led((1,)), ("settled", (1,)))

    def test_bad_flags(self):
        for flag in (*ODD_THINGS, 2, -1, "0", "1", 1.0):
            self.raises(BadAnswer, {"answer": 0}, self.told.led, (flag,))
            self.raises(BadAnswer, {"answer": 1}, self.told.led, (0, flag, 0))
        for flag in (0, 1, True, None, ""):
            self.raises(BadAnswer, {"answer": 1}, self.told.led, (1, flag))
            self.raises(BadAnswer, {"answer": 2}, self.told.led, (0, 0, flag, flag))
            self.raises(BadAnswer, {"answer": 0}, Settling(ALL, (EVEN,)).led, (flag,))
