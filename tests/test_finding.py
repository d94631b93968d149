"""Promises [10] and [17]: numbers that are missed, their table and how it is judged."""

import random

from brute import SlowFinding, copies_upto, key_of, numbers_upto, slow_judge, slow_table
from handcarried.errors import TooMany, Unlike
from handcarried.finding import Finding, judge_finding
from handcarried.hands import Hand
from handcarried.prices import least_price
from handcarried.series import Series
from helpers import Case, example_hand, example_series, free_series
from judged import odd_entries, spoilt
from test_crossings import NO_HAND, OTHER, exactly, rounds, some_series
from test_prices import some_hand

ANY = ("any",)
SWAP = Hand("some", "012", (("swap", 1, (("xy", "yx"),)),))
THREES = free_series("threes", "012", ("sum", 3, (1,), 0))


def fours():
    return tuple(((at + 1) % 4,) * 2 for at in range(4))


class TestFinding(Case):
    def test_the_example(self):
        told = Finding(THREES, SWAP)
        self.assertIs(bool(told), False)
        self.same(told.missed, (1, "12", "21"))
        self.same(told.table, tuple((rest, rest, spent, lag) for rest in range(3) for spent, lag in ((0, "="), (1, "#"))))
        self.same(list(told), list(told.table))
        # Nothing is missed for nothing.
        told = Finding(THREES, SWAP, most=0)
        self.same((bool(told), told.missed, told.table), (True, None, ((0, 0, 0, "="), (1, 1, 0, "="), (2, 2, 0, "="))))

    def test_a_series_that_finds_a_hand(self):
        series = free_series("found", "012", ("sum", 5, (1, 2), 0))
        told = Finding(series, SWAP)
        self.assertIs(bool(told), True)
        self.assertIsNone(told.missed)
        self.assertIsNone(judge_finding(series, SWAP, 1, told.table))
        # With two slips it does not.
        told = Finding(series, SWAP, most=2)
        self.assertIs(bool(told), False)
        self.assertEqual(told.missed[0], 2)
        self.assertEqual(least_price(SWAP, *told.missed[1:]), 2)

    def test_the_four_kinds_of_lag(self):
        hand = Hand("some", "01", (("lost", 1, (("x", ""),)), ("more", 1, (("x", "xx"),))))
        told = Finding(free_series("all", "01"), hand)
        self.same(told.table, ((0, 0, 0, "="), (0, 0, 1, "#"), (0, 0, 1, "+0"), (0, 0, 1, "+1"), (0, 0, 1, "-0"),
                               (0, 0, 1, "-1")))
        # A number is missed with a copy that is a beginning of it.
        self.same(told.missed, (1, "0", ""))
        told = Finding(rounds(3), hand, most=3)
        self.assertEqual({entry[3][0] for entry in told.table}, {"=", "+", "-", "#"})
        # Three signs fewer cost more than one sign put in and one left out.
        self.same(told.missed, (2, "001", "000"))
        self.same(Finding(rounds(3, (1, 2)), Hand("some", "01", (("more", 1, (("x", "xx"),)),))).missed, (1, "0", "00"))

    def test_a_copy_that_is_the_number_again_is_not_missed(self):
        hand = Hand("some", "01", (("a", 1, (("0", ""), ("0", "00"))),))
        zeros = Series("zeros", "01", (("run", "a", "0", 0, None),), ("square", fours(), (0,)))
        told = Finding(zeros, hand, most=3)
        self.assertIs(bool(told), True)
        self.assertIn((0, 0, 2, "="), told.table)
        self.assertIsNone(judge_finding(zeros, hand, 3, told.table))
        self.same(Finding(zeros, hand, most=4).missed, (4, "0000", ""))
        # With ones among the zeros the two slips together can make another number.
        self.same(Finding(rounds(4), hand, most=3).missed, (2, "0010", "0001"))

    def test_two_slips(self):
        hand = Hand("some", "012", (("a", 2, (("x", "y"),)),))
        self.assertIs(bool(Finding(THREES, hand, most=3)), True)
        self.same(Finding(THREES, hand, most=4).missed, (4, "00", "12"))
        self.same(Finding(THREES, hand, most=9).missed, (4, "00", "12"))

    def test_signs_put_in_and_left_out(self):
        # The number and the copy have equally many signs, so one is put in for one that is left out.
        hand = Hand("some", "012", (("lost", 1, (("2", ""),)), ("more", 2, (("0", "00"),))))
        series = Series("x", "012", (("run", "a", "012", 3, 3),), ANY)
        self.same(Finding(series, hand, most=9).missed, (3, "002", "000"))
        # A 2 for a 0 does not leave the same rest, and no three signs can lose two and get two.
        series = Series("x", "012", (("run", "a", "012", 3, 3),), ("sum", 3, (1,), 0))
        self.assertIsNone(Finding(series, hand, most=9).missed)
        series = Series("x", "012", (("run", "a", "012", 6, 6),), ("sum", 3, (1,), 0))
        self.same(Finding(series, hand, most=9).missed, (9, "000222", "000000"))

    def test_price_then_number_then_copy(self):
        hand = Hand("some", "012", (("a", 2, (("0", "1"), ("0", "2"))), ("b", 1, (("2", "1"), ("2", "0")))))
        self.same(Finding(exactly("012", "0", "1", "2"), hand, most=9).missed, (1, "2", "0"))
        self.same(Finding(exactly("012", "0", "1", "22", "12"), hand, most=9).missed, (1, "22", "12"))
        self.same(Finding(exactly("012", "0", "1", "22", "12"), Hand("some", "012", (("a", 1, (("0", "1"), ("2", "1"))),)),
                          most=9).missed, (1, "0", "1"))

    def test_without_numbers_and_without_slips(self):
        none = free_series("none", "01", ("not", ANY))
        told = Finding(none, OTHER, most=9)
        self.same((bool(told), told.table, told.missed), (True, (), None))
        self.assertIsNone(judge_finding(none, OTHER, 9, ()))
        self.assertEqual(judge_finding(none, OTHER, 9, ((0, 0, 0, "="),)), 0)
        told = Finding(free_series("all", "01"), NO_HAND, most=9)
        self.same((bool(told), told.table), (True, ((0, 0, 0, "="),)))

    def test_unlike_signs(self):
        self.raises(Unlike, {"what": "signs"}, Finding, THREES, OTHER)
        self.raises(Unlike, {"what": "signs"}, judge_finding, THREES, OTHER, 1, None)

    def test_two_thousand_entries(self):
        hand = Hand("some", "01", (("a", 1, (("0", "1"), ("0", "00"))),))
        told = Finding(rounds(50), hand, most=5)
        self.assertEqual(len(told.table), 2000)
        self.same(told.table, slow_table(SlowFinding(rounds(50), hand, 5)))
        self.assertEqual(told.missed[0], 1)
        hand = Hand("some", "01", (("a", 1, (("0", ""),)), ("b", 3, (("xz", "y"), ("0", "x")))))
        self.assertEqual(len(slow_table(SlowFinding(rounds(23), hand, 7))), 2001)
        self.raises(TooMany, {"what": "entry"}, Finding, rounds(23), hand, most=7)
        self.assertLess(len(Finding(rounds(23), hand, most=6).table), 2000)

    def test_lags_that_are_put_together(self):
        hand = Hand("some", "0123456789AB", (("a", 1, (("0", ""),)),))
        self.same(Finding(free_series("all", hand.signs), hand).table,
                  ((0, 0, 0, "="), (0, 0, 1, "#"), (0, 0, 1, "+0")))
        hand = Hand("some", "012", (("a", 1, (("x", "0x1"),)),))
        self.same(Finding(free_series("all", hand.signs), hand).table, (
            (0, 0, 0, "="), (0, 0, 1, "#"), (0, 0, 1, "-01"), (0, 0, 1, "-10")))

    def test_against_a_slow_look(self):
        dice = random.Random(107)
        seen = []
        for _ in range(150):
            series, hand, most = some_series(dice, "01"), some_hand(dice, "01", 3), dice.randrange(4)
            point = SlowFinding(series, hand, most)
            table = slow_table(point)
            if table is None or len(table) > 2000:
                self.raises(TooMany, {"what": "entry"}, Finding, series, hand, most=most)
                continue
            told = Finding(series, hand, most=most)
            self.same(told.table, table)
            self.same(tuple(told), table)
            self.assertIs(bool(told), told.missed is None)
            self.check_missed(told, series, hand, most)
            self.assertEqual(judge_finding(series, hand, most, table), slow_judge(point, table))
            self.assertEqual(judge_finding(series, hand, most, table) is None, bool(told))
            seen.append(told.missed[0] if told.missed else None)
        self.assertLessEqual({None, 1, 2, 3}, set(seen))

    def check_missed(self, told, series, hand, most):
        found = [(price, key_of(number), key_of(copy)) for number in numbers_upto(series, 4)
                 for copy, price in copies_upto(hand, number, most).items() if copy in series and copy != number]
        if told.missed is None:
            self.assertEqual(found, [])
        else:
            price, number, copy = told.missed
            self.assertEqual(least_price(hand, number, copy), price)
            self.assertTrue(number in series and copy in series and number != copy)
            least = (price, key_of(number), key_of(copy))
            self.assertEqual(min([*found, least]), least)
            self.assertTrue(len(number) > 4 or least in found)


class TestJudged(Case):
    def setUp(self):
        self.series = free_series("found", "012", ("sum", 5, (1, 2), 0))
        self.table = Finding(self.series, SWAP).table
        self.many = len(self.table)

    def judged(self, table):
        return judge_finding(self.series, SWAP, 1, table)

    def test_right_tables(self):
        table = self.table
        for told in (table, table[::-1], table * 3, [list(entry) for entry in table], [*table, list(table[2])]):
            self.assertIsNone(self.judged(told))

    def test_the_example(self):
        # The first bad entry of the table: the number and the copy have parted, and both may end.
        self.assertEqual(judge_finding(THREES, SWAP, 1, Finding(THREES, SWAP).table), 1)

    def test_no_table(self):
        for thing in (None, True, 5, "", "000=", {}, set(), {(0, 0, 0, "="): 1}, len):
            self.assertEqual(self.judged(thing), -1)

    def test_without_the_beginning(self):
        rest = self.table[1:]
        self.assertEqual(self.table[0], (0, 0, 0, "="))
        for table in ((), rest, ((False, 0, 0, "="), *rest), ((0, 0, 0), *rest), ((0, 0, 0, "#"), *rest),
                      (0, 0, 0, "="), ((0, 0, 0, "= "), *rest), ((0, 0, 0, ["="]), *rest)):
            self.assertEqual(self.judged(table), -1, table)

    def test_entries_without_their_form(self):
        for entry in odd_entries((0, 0, 0, "=")):
            self.assertEqual(self.judged((*self.table, entry)), self.many, entry)
            self.assertEqual(self.judged([entry, *self.table]), 0, entry)

    def test_lags_that_are_no_lags(self):
        for lag in ("", "+", "-", "==", "##", "=0", "#0", "0", "+3", "-x", "+0-", "+ 0", "++0", "0+", None, True, 0, ("=",),
                    "+" + "0" * 1999 + "3"):
            self.assertEqual(self.judged((*self.table, (1, 1, 1, lag))), self.many, lag)
            self.assertEqual(self.judged(((1, 1, 1, lag), *self.table)), 0, lag)

    def test_lags_that_lead_on(self):
        # These are lags: only what they lead to is not in the table.
        for lag in ("+0", "-012", "+" + "0" * 1999):
            entry = (1, 2, 1, lag)
            point = SlowFinding(self.series, SWAP, 1)
            self.assertEqual(slow_judge(point, (*self.table, entry)), self.many)
            self.assertEqual(self.judged((*self.table, entry)), self.many)
        # A round of its own that was never reached: two rests that never meet, parted as they are.
        everything = rounds(4)
        table = Finding(everything, OTHER).table
        more = tuple((at, (at + 2) % 4, 1, "#") for at in range(4))
        self.assertEqual(judge_finding(rounds(4), OTHER, 1, table + more), slow_judge(
            SlowFinding(rounds(4), OTHER, 1), table + more))
        half = rounds(4, (0, 1))
        self.assertEqual(len(half.walk), 4)
        hand = Hand("some", "01", (("lost", 1, (("xyz", "x"),)),))
        table = Finding(half, hand, most=0).table
        more = tuple((at, (at + 2) % 4, 0, "#") for at in range(4))
        self.assertIsNone(judge_finding(half, hand, 0, table + more))

    def test_left_out_and_bad_entries(self):
        self.assertEqual(self.judged((*self.table, (0, 0, 2, "#"))), self.many)
        self.assertEqual(self.judged((*self.table, (0, 0, 10 ** 39, "="))), self.many)
        self.assertEqual(self.judged((*self.table, (0, 0, 1, "#"))), self.many)
        self.assertEqual(self.judged(((0, 0, 1, "#"), *self.table)), 0)
        few = exactly("012", "01", "2")
        table = Finding(few, SWAP).table
        self.assertIsNone(judge_finding(few, SWAP, 1, table))
        dead = [at for at in range(len(few.walk)) if at not in few.walk.live][0]
        self.assertEqual(judge_finding(few, SWAP, 1, (*table, (dead, 0, 1, "#"))), len(table))
        self.assertEqual(judge_finding(few, SWAP, 1, (*table, (0, dead, 1, "#"))), len(table))

    def test_steps_that_lead_out_of_the_table(self):
        point = SlowFinding(self.series, SWAP, 1)
        for k in range(1, self.many):
            table = self.table[:k] + self.table[k + 1:]
            self.assertEqual(self.judged(table), slow_judge(point, table))
            self.assertIsNotNone(self.judged(table))

    def test_large_tables(self):
        self.assertIsNone(self.judged(self.table * 200))
        self.assertEqual(self.judged((*self.table * 200, 5)), 200 * self.many)

    def test_against_a_slow_look(self):
        dice = random.Random(109)
        told = []
        for _ in range(60):
            series, hand, most = some_series(dice, "01"), some_hand(dice, "01", 2), dice.randrange(3)
            point = SlowFinding(series, hand, most)
            table = slow_table(point, 150)
            for _ in range(6 if table else 0):
                other = spoilt(dice, table, odd_entries((0, 0, 0, "=")))
                told.append(judge_finding(series, hand, most, other))
                self.assertEqual(told[-1], slow_judge(point, other), other)
        self.assertTrue(None in told and -1 in told and 0 in told and 2 in told)

    def test_the_example_of_the_house(self):
        told = Finding(example_series(), example_hand(), most=2)
        self.assertEqual(judge_finding(example_series(), example_hand(), 2, told.table) is None, bool(told))
