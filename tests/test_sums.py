"""Promise [13]: the least sum of a walk."""

import random

from handcarried.errors import TooMany
from handcarried.rules import rule_walk
from handcarried.sums import least_sum
from handcarried.walks import Walk
from helpers import Case, counter
from test_walks import some_walk


def tuples_of(modulus, many):
    return [()] if many == 0 else [(*rest, k) for rest in tuples_of(modulus, many - 1) for k in range(modulus)]


def sums_upto(modulus, many):
    """All sums in the order told."""
    return [("sum", size, weights, goal) for size in range(2, modulus + 1) for length in range(1, many + 1)
            for weights in tuples_of(size, length) for goal in range(size)]


class TestLeastSum(Case):
    def test_ordinary_sums(self):
        walk = rule_walk("0123456789", ("sum", 10, (1, 3), 4))
        self.same(least_sum(walk, modulus=10, many=2), ("sum", 10, (1, 3), 4))
        self.assertIsNone(least_sum(walk, modulus=9, many=2))
        self.assertIsNone(least_sum(walk, modulus=24, many=1))
        self.same(least_sum(walk, modulus=11, many=2), ("sum", 10, (1, 3), 4))

    def test_fewer_weights_and_smaller_moduli(self):
        self.same(least_sum(rule_walk("01", ("sum", 6, (3, 3), 3)), modulus=6, many=2), ("sum", 2, (1,), 1))
        self.same(least_sum(rule_walk("01", ("sum", 4, (2, 1, 2, 1), 0)), modulus=4, many=4), ("sum", 4, (2, 1), 0))
        # By three times the weights the same papers are right.
        self.same(least_sum(rule_walk("01", ("sum", 4, (3,), 0)), modulus=4, many=1), ("sum", 4, (1,), 0))
        self.same(least_sum(rule_walk("01", ("sum", 4, (3,), 1)), modulus=4, many=1), ("sum", 4, (1,), 3))

    def test_all_papers_and_none(self):
        everything = Walk.everything("012")
        self.same(least_sum(everything, modulus=2, many=1), ("sum", 2, (0,), 0))
        self.same(least_sum(~everything, modulus=3, many=2), ("sum", 2, (0,), 1))

    def test_no_sums(self):
        for walk in (counter("01", 3), ~rule_walk("01", ("sum", 3, (1,), 0)), Walk("01", ((1, 1), (1, 1)), (0,)),
                     Walk("01", ((1, 1), (1, 1)), (1,)), rule_walk("012", ("back", ("sum", 3, (1, 2), 1)))):
            self.assertIsNone(least_sum(walk, modulus=4, many=3))
        self.same(least_sum(rule_walk("012", ("back", ("sum", 3, (1, 2), 0))), modulus=4, many=3), ("sum", 3, (1, 2), 0))
        # A sum, but none that needs so few.
        self.assertIsNone(least_sum(rule_walk("01", ("sum", 5, (1,), 0)), modulus=4, many=3))
        self.assertIsNone(least_sum(rule_walk("01", ("sum", 2, (0, 0, 1), 0)), modulus=8, many=2))
        self.same(least_sum(rule_walk("01", ("sum", 2, (0, 0, 1), 0)), modulus=2, many=3), ("sum", 2, (0, 0, 1), 0))

    def test_the_first_in_order_against_the_walks_of_the_rules(self):
        dice = random.Random(47)
        for signs in ("01", "012", "0123"):
            rules = sums_upto(4, 2) if signs != "01" else sums_upto(3, 3)
            walks = [rule_walk(signs, rule) for rule in rules]
            modulus, many = (4, 2) if signs != "01" else (3, 3)
            for rule in dice.sample(rules, 60):
                walk = rule_walk(signs, rule)
                self.same(least_sum(walk, modulus=modulus, many=many), rules[walks.index(walk)])
            for _ in range(40):
                walk = Walk(signs, *some_walk(dice, signs, dice.randrange(1, 4)))
                wanted = rules[walks.index(walk)] if walk in walks else None
                self.same(least_sum(walk, modulus=modulus, many=many), wanted)

    def test_too_many_rules(self):
        walk = rule_walk("01", ("sum", 2, (1,), 0))
        # How many rules there are: the sum of the powers of each modulus.
        for modulus, many in ((24, 1), (11, 2), (6, 3), (4, 4), (3, 6), (2, 8)):
            rules = sum(size ** (length + 1) for size in range(2, modulus + 1) for length in range(1, many + 1))
            self.assertLessEqual(rules, 5000)
            self.same(least_sum(walk, modulus=modulus, many=many), ("sum", 2, (1,), 0))
            self.assertIsNone(least_sum(Walk("01", ((1, 1), (1, 1)), (1,)), modulus=modulus, many=many))
        for modulus, many in ((25, 1), (12, 2), (7, 3), (5, 4), (4, 5), (3, 7), (3, 8), (60, 8), (60, 1)):
            rules = sum(size ** (length + 1) for size in range(2, modulus + 1) for length in range(1, many + 1))
            self.assertGreater(rules, 5000)
            self.raises(TooMany, {"what": "rule"}, least_sum, walk, modulus=modulus, many=many)

    def test_among_nearly_five_thousand(self):
        # 4,899, 4,860 and 1,020 rules.
        self.same(least_sum(rule_walk("01", ("sum", 23, (1,), 22)), modulus=24, many=1), ("sum", 23, (1,), 22))
        walk = rule_walk("0123", ("sum", 11, (10, 9), 10))
        self.same(least_sum(walk, modulus=11, many=2), ("sum", 11, (1, 2), 1))
        walk = rule_walk("01", ("sum", 2, (0, 1, 1, 0, 1, 0, 1, 1), 1))
        self.same(least_sum(walk, modulus=2, many=8), ("sum", 2, (0, 1, 1, 0, 1, 0, 1, 1), 1))
