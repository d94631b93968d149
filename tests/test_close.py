"""Promises [10] and [35]: numbers that are issued close together, their table and how it is judged."""

import random

from brute import (
    copies_upto, is_number, is_sequence, key_of, led, numbers_upto, pieces_by, slow_judge, slow_table,
)
from handcarried.close import Close, judge_close
from handcarried.errors import TooMany, Unfit, Unlike
from handcarried.hands import Hand
from handcarried.prices import least_price
from handcarried.ranks import nth_number, rank_of
from handcarried.series import Series
from helpers import Case, free_series
from judged import odd_entries
from test_crossings import exactly, rounds, some_series
from test_trust import spoilt_deep

ANY = ("any",)
TURN = Hand("turn", "012", (("a", 1, (("x", "y"),)),))
SWAP = Hand("swap", "012", (("a", 1, (("xy", "yx"),)),))
LOST = Hand("lost", "012", (("a", 1, (("x", ""),)),))
THREES = free_series("threes", "012", ("sum", 3, (1,), 0))
ALL = free_series("all", "012")


def level_hand(dice, signs):
    """A hand whose pairs have two papers of equally many signs."""
    patterns = []
    for _ in range(dice.randrange(1, 3)):
        many = dice.randrange(1, 4)
        patterns.append(tuple("".join(dice.choice(signs + "xy") for _ in range(many)) for _ in range(2)))
    return Hand("some", signs, (("a", dice.randrange(1, 3), tuple(patterns)),))


class SlowClose:
    """The table of close numbers, word by word; what lies between is counted among all papers of a length."""

    beginning = (0, 0, 0, 0, ())

    def __init__(self, series, hand, most, far):
        self.walk, self.most, self.far = series.walk, most, far
        self.live = [at for at in range(len(self.walk)) if self.walk.least_paper(at) is not None]
        self.pieces = pieces_by(hand)

    def form(self, thing):
        if not is_sequence(thing, 5) or not all(is_number(at, 0, len(self.walk) - 1) for at in thing[:2]):
            return False
        at, to, spent, side, between = thing
        if not is_number(spent, 0, 10 ** 40) or not is_number(side, -1, 1) or between.__class__ not in (tuple, list):
            return False
        if not all(is_sequence(pair, 2) and is_number(pair[0], 0, len(self.walk) - 1) and pair[0] in self.live
                   and is_number(pair[1], 1, self.far) for pair in between):
            return False
        standings = [pair[0] for pair in between]
        if standings != sorted(set(standings)):
            return False
        return side != 0 or (at == to and len(between) == 0)

    def left_out(self, entry):
        return entry[0] not in self.live or entry[1] not in self.live or entry[2] > self.most

    def bad(self, entry):
        at, to, _, side, between = entry
        many = sum(count for standing, count in between if standing in self.walk.goals)
        return side != 0 and at in self.walk.goals and to in self.walk.goals and many < self.far

    def steps(self, entry):
        out = []
        for (before, behind), price in self.pieces.items():
            at, to, spent, side, between = entry
            for one, other in zip(before, behind):
                papers = []
                for standing, many in between:
                    papers += [(standing, sign) for sign in self.walk.signs] * many
                if side == 0:
                    papers += [(at, sign) for sign in self.walk.signs if min(one, other) < sign < max(one, other)]
                else:
                    low, x, high, y = (at, one, to, other) if side == 1 else (to, other, at, one)
                    papers += [(low, sign) for sign in self.walk.signs if sign > x]
                    papers += [(high, sign) for sign in self.walk.signs if sign < y]
                ends = [led(self.walk, standing, sign) for standing, sign in papers]
                between = tuple((standing, min(self.far, ends.count(standing)))
                                for standing in sorted(set(ends)) if standing in self.live)
                at, to = led(self.walk, at, one), led(self.walk, to, other)
                if side == 0 and one != other:
                    side = 1 if other > one else -1
            out.append((at, to, spent + price, side, between))
        return out


def run_series(signs, least, most, rule):
    return Series("some", signs, (("run", "a", signs, least, most),), rule)


# Series, hands, prices and distances whose tables have 2,000 or 2,001 entries.
LIMITS = (
    (run_series("01", 2, 10, ("sum", 11, (10, 10), 8)), Hand("some", "01", (("a", 1, (("1", "0"), ("y", "1"))),)), 3, 4,
     2000),
    (run_series("0123", 6, 11, ("sum", 11, (10, 4), 7)), Hand("some", "0123", (("a", 1, (("x2", "2x"),)),)), 2, 1, 2000),
    (run_series("012", 9, 9, ("sum", 5, (3,), 4)), Hand("some", "012", (("a", 2, (("xy", "y0"), ("1", "0"))),)), 4, 2, 2001),
    (run_series("012", 5, 10, ("sum", 9, (0, 5), 7)), Hand("some", "012", (("a", 1, (("1", "x"),)),)), 2, 4, 2001),
)


class TestClose(Case):
    def check(self, series, hand, most=1, far=1, longest=4):
        """What is told, held against the words of the document and against the ranks of the numbers."""
        told = Close(series, hand, most=most, far=far)
        slow = SlowClose(series, hand, most, far)
        self.same(told.table, slow_table(slow))
        self.assertIs(bool(told), not any(slow.bad(entry) for entry in told.table))
        self.assertEqual(judge_close(series, hand, most, far, told.table), slow_judge(slow, told.table))
        self.assertIs(bool(told), told.least == (None,) * far)
        found = {}
        numbers = numbers_upto(series, longest)
        for rank, number in enumerate(numbers):
            for copy, price in copies_upto(hand, number, most).items():
                if copy in numbers and price <= most and len(copy) == len(number):
                    found.setdefault(abs(numbers.index(copy) - rank), []).append((number, copy))
        for distance in range(1, far + 1):
            pairs = sorted(found.get(distance, []), key=lambda pair: (key_of(pair[0]), key_of(pair[1])))
            two = told.least[distance - 1]
            if two is None:
                self.assertEqual(pairs, [])
            else:
                self.assertEqual(abs(rank_of(series, two[0]) - rank_of(series, two[1])), distance)
                self.assertLessEqual(least_price(hand, *two), most)
                self.assertTrue(two[0] in series and two[1] in series and len(two[0]) == len(two[1]))
                if len(two[0]) <= longest:
                    self.assertEqual(two, pairs[0])
                else:
                    self.assertEqual(pairs, [])
        return told

    def test_neighbours(self):
        told = self.check(ALL, TURN)
        self.same((bool(told), told.least), (False, (("0", "1"),)))
        told = self.check(ALL, SWAP, far=4)
        self.same(told.least, (None, ("01", "10"), None, ("02", "20")))
        told = self.check(THREES, SWAP, far=4)
        # 12 and 21 follow one another among the numbers; 00 is ahead of both.
        self.same(told.least, (("12", "21"), ("012", "102"), None, ("021", "201")))
        self.assertIs(bool(told), False)

    def test_numbers_that_are_kept_apart(self):
        told = self.check(THREES, TURN, far=4)
        self.same((bool(told), told.least), (True, (None,) * 4))
        self.same(self.check(THREES, TURN, most=2).least, (("00", "12"),))
        told = self.check(ALL, Hand("none", "012", ()), most=9, far=4)
        self.same((told.least, told.table), ((None,) * 4, ((0, 0, 0, 0, ()),)))

    def test_least_number_then_least_copy(self):
        hand = Hand("some", "012", (("a", 1, (("0", "1"), ("1", "2"), ("1", "0"))),))
        # The copy may come ahead of the number or behind it.
        self.same(self.check(exactly("012", "0", "1", "2"), hand).least, (("0", "1"),))
        self.same(self.check(exactly("012", "1", "2"), hand).least, (("1", "2"),))
        hand = Hand("some", "012", (("a", 1, (("1", "2"), ("1", "0"))),))
        self.same(self.check(exactly("012", "0", "1", "2"), hand).least, (("1", "0"),))
        hand = Hand("some", "012", (("a", 3, (("0", "1"),)), ("b", 1, (("2", "1"),))))
        # The number decides, not the price.
        self.same(self.check(exactly("012", "0", "1", "2"), hand, most=3).least, (("0", "1"),))
        self.same(self.check(exactly("012", "0", "1", "2"), hand, most=2).least, (("2", "1"),))

    def test_a_pair_or_none_for_each_distance(self):
        hand = Hand("some", "012", (("a", 1, (("00", "22"), ("00", "12"), ("00", "02"))),))
        series = Series("two", "012", (("run", "a", "012", 2, 2),), ANY)
        self.same(self.check(series, hand, far=4).least, (None, ("00", "02"), None, None))
        few = exactly("012", "00", "02", "11", "12", "22")
        self.same(self.check(few, hand, far=4).least, (("00", "02"), None, ("00", "12"), ("00", "22")))
        for far in range(1, 5):
            self.same(self.check(few, hand, far=far).least, (("00", "02"), None, ("00", "12"), ("00", "22"))[:far])
        told = self.check(few, Hand("some", "012", (("a", 1, (("00", "12"),)),)), far=2)
        self.same((bool(told), told.least), (True, (None, None)))

    def test_more_than_far_are_told_as_far(self):
        told = self.check(ALL, TURN, far=2)
        self.assertTrue(any(pair[1] == 2 for entry in told.table for pair in entry[4]))
        self.assertFalse(any(pair[1] > 2 for entry in told.table for pair in entry[4]))
        self.assertEqual({entry[3] for entry in told.table}, {-1, 0, 1})

    def test_most_from_0_to_9(self):
        told = self.check(ALL, TURN, most=0, far=4)
        self.same((told.least, told.table), ((None,) * 4, ((0, 0, 0, 0, ()),)))
        dear = Hand("dear", "012", (("a", 9, (("x", "y"),)),))
        self.assertTrue(Close(ALL, dear, most=8))
        self.same(self.check(ALL, dear, most=9).least, (("0", "1"),))
        self.same(Close(ALL, TURN).least, Close(ALL, TURN, most=1, far=1).least)

    def test_without_numbers(self):
        none = free_series("none", "012", ("not", ANY))
        told = self.check(none, TURN, far=3)
        self.same((bool(told), told.table, told.least), (True, (), (None,) * 3))
        self.assertIsNone(judge_close(none, TURN, 1, 3, ()))

    def test_the_order_of_the_errors(self):
        other = Hand("other", "01", (("a", 1, (("x", ""),)),))
        self.raises(Unlike, {"what": "signs"}, Close, ALL, other)
        self.raises(Unlike, {"what": "signs"}, judge_close, ALL, other, 1, 1, None)
        self.raises(Unfit, {"what": "length"}, Close, ALL, LOST)
        self.raises(Unfit, {"what": "length"}, judge_close, ALL, LOST, 1, 1, None)
        large = free_series("large", "012", ("sum", 59, (1, 7), 0))
        self.raises(TooMany, {"what": "entry"}, Close, large, TURN, most=2, far=4)
        self.raises(Unfit, {"what": "length"}, Close, large, TURN + Hand("x", "012", (("b", 1, (("0", "11"),)),)))
        self.assertEqual(judge_close(large, TURN, 2, 4, None), -1)

    def test_two_thousand_entries(self):
        for series, hand, most, far, many in LIMITS:
            if many == 2000:
                told = Close(series, hand, most=most, far=far)
                self.assertEqual(len(told.table), 2000)
                self.same(told.table, slow_table(SlowClose(series, hand, most, far)))
            else:
                self.assertEqual(len(slow_table(SlowClose(series, hand, most, far))), 2001)
                self.raises(TooMany, {"what": "entry"}, Close, series, hand, most=most, far=far)

    def test_against_slow_looks(self):
        dice = random.Random(307)
        seen = []
        for _ in range(150):
            series, hand = some_series(dice, "01"), level_hand(dice, "01")
            most, far = dice.randrange(4), dice.randrange(1, 5)
            if slow_table(SlowClose(series, hand, most, far), 300) is not None:
                seen.append(self.check(series, hand, most, far).least)
        self.assertTrue(any(all(least) for least in seen))
        self.assertTrue(any(not any(least) for least in seen))
        self.assertTrue(any(any(least) and not all(least) for least in seen))


class TestJudged(Case):
    def setUp(self):
        self.series = free_series("fives", "012", ("sum", 5, (1, 2), 0))
        self.table = Close(self.series, SWAP, far=2).table
        self.slow = SlowClose(self.series, SWAP, 1, 2)
        self.many = len(self.table)

    def judged(self, table):
        told = judge_close(self.series, SWAP, 1, 2, table)
        self.same(told, slow_judge(self.slow, table))
        return told

    def test_right_tables(self):
        def listed(thing):
            return [listed(part) for part in thing] if thing.__class__ is tuple else thing

        for told in (self.table, self.table[::-1], self.table * 2, listed(self.table)):
            self.assertIsNone(self.judged(told))
        self.assertTrue(Close(self.series, SWAP, far=2))

    def test_no_table(self):
        for thing in (None, True, 5, "", {}, set(), len, (), self.table[1:], self.slow.beginning):
            self.assertEqual(self.judged(thing), -1)
        self.assertEqual(self.table[0], self.slow.beginning)

    def test_entries_without_their_form(self):
        for entry in odd_entries(self.slow.beginning):
            self.assertEqual(self.judged((*self.table, entry)), self.many, entry)

    def test_sides_and_what_lies_between(self):
        at, to, spent, side, between = [entry for entry in self.table if entry[3] == 1 and len(entry[4]) > 1][0]
        for other in (2, -2, True, None, "1", 0):
            self.assertEqual(self.judged((*self.table, (at, to, spent, other, between))), self.many)
        self.assertEqual(self.judged((*self.table, (0, 1, 0, 0, ()))), self.many)
        self.assertEqual(self.judged((*self.table, (0, 0, 0, 0, ((0, 1),)))), self.many)
        for other in (None, "", 0, (0,), ((0,),), ((0, 1, 1),), ((0, 0),), ((0, 3),), ((0, -1),), ((0, True),), ((True, 1),),
                      ((-1, 1),), ((99, 1),), (("0", 1),), ((0, "1"),), ((1, 1), (0, 1)), ((0, 1), (0, 2)), ((0, 1), (0, 1)),
                      ((None, 1),), ((0, None),), between[::-1], (*between, between[0]), {0: 1}, ((0.0, 1),), ([0], [1])):
            self.assertEqual(self.judged((*self.table, (at, to, spent, 1, other))), self.many, other)
            self.assertEqual(self.judged([(at, to, spent, -1, other), *self.table]), 0, other)

    def test_standings_that_are_not_live(self):
        few = exactly("012", "01", "10", "12")
        table = Close(few, SWAP, far=2).table
        dead = [at for at in range(len(few.walk)) if at not in few.walk.live][0]
        for entry in ((dead, 0, 0, 1, ()), (0, dead, 0, 1, ()), (0, 0, 0, 1, ((dead, 1),)), (dead, dead, 0, 0, ())):
            self.assertEqual(judge_close(few, SWAP, 1, 2, (entry, *table)), 0)

    def test_left_out_and_bad_entries(self):
        goal = self.series.walk.goals[0]
        for entry in ((0, 0, 2, 0, ()), (goal, goal, 1, 1, ()), (goal, goal, 1, -1, ((goal, 1),)), (0, 0, 10 ** 39, 0, ())):
            self.assertEqual(self.judged((entry, *self.table)), 0)
        # With two numbers between they are three places apart, and that is further than was asked.
        self.assertIsNot(self.judged((*self.table, (goal, goal, 1, 1, ((goal, 2),)))), 0)

    def test_steps_that_lead_out_of_the_table(self):
        for k in range(self.many):
            self.assertIsNotNone(self.judged(self.table[:k] + self.table[k + 1:]))

    def test_against_a_slow_look(self):
        dice = random.Random(311)
        told = []
        for _ in range(60):
            series, hand = some_series(dice, "01"), level_hand(dice, "01")
            most, far = dice.randrange(3), dice.randrange(1, 4)
            slow = SlowClose(series, hand, most, far)
            table = slow_table(slow, 100)
            for _ in range(5 if table else 0):
                other = spoilt_deep(dice, table)
                told.append(judge_close(series, hand, most, far, other))
                self.same(told[-1], slow_judge(slow, other))
        self.assertTrue(None in told and -1 in told and 0 in told and 2 in told)

    def test_a_number_and_its_neighbours(self):
        # What is told of distances agrees with the numbers by their ranks.
        for rank in range(20):
            number = nth_number(self.series, rank)
            for copy in (nth_number(self.series, rank + 1), nth_number(self.series, rank + 2)):
                self.assertIsNot(least_price(SWAP, number, copy), 1)
