"""Promises [10] and [16]: crossings, their table and how it is judged."""

import random

from brute import SlowCrossing, copies_upto, key_of, numbers_upto, slow_judge, slow_table
from handcarried.crossings import Crossing, judge_crossing
from handcarried.errors import TooMany, Unlike
from handcarried.hands import Hand
from handcarried.prices import least_price
from handcarried.series import Series
from helpers import Case, example_hand, example_series, free_series
from judged import odd_entries, spoilt
from test_forms import some_form
from test_prices import some_hand
from test_rules import some_rule

ANY = ("any",)
NO_HAND = Hand("none", "01", ())
OTHER = Hand("other", "01", (("a", 1, (("x", "y"),)),))


def rounds(many, goals=(0,), name="round"):
    """The series of the papers over 01 whose number of signs leaves these rests by many (up to 60)."""
    return free_series(name, "01", ("square", tuple(((at + 1) % many,) * 2 for at in range(many)), goals))


def exactly(signs, *words):
    """The series of just these papers, of one to four signs."""
    return Series("few", signs, (("words", "a", words),), ANY)


def some_series(dice, signs, deep=1):
    """A series that has not too many standings."""
    while True:
        try:
            return Series("some", signs, some_form(dice, signs), some_rule(dice, signs, deep))
        except TooMany:
            continue


class TestCrossing(Case):
    def test_apart(self):
        # With a sign exchanged a number of an even sum becomes one of an odd sum.
        even = free_series("even", "01", ("sum", 2, (1,), 0))
        swap = Hand("swap", "01", (("a", 1, (("xy", "yx"),)),))
        odd = free_series("odd", "01", ("sum", 2, (1,), 1))
        told = Crossing(even, swap, odd)
        self.assertIs(bool(told), True)
        self.assertIsNone(told.least)
        self.same(told.table, ((0, 0, 0), (0, 0, 1), (1, 1, 0), (1, 1, 1)))
        self.assertIsNone(judge_crossing(even, swap, odd, 1, told.table))
        told = Crossing(even, OTHER, odd)
        self.assertIs(bool(told), False)
        self.same(told.least, (1, "0", "1"))

    def test_price_then_number_then_copy(self):
        hand = Hand("some", "012", (("a", 2, (("0", "1"), ("0", "2"))), ("b", 1, (("2", "1"), ("2", "0"))),
                                    ("c", 3, (("1", ""),))))
        self.same(Crossing(exactly("012", "0", "22"), hand, exactly("012", "1", "2"), most=9).least, (2, "0", "1"))
        # Cheaper, though the number is longer.
        self.same(Crossing(exactly("012", "0", "22"), hand, exactly("012", "1", "12"), most=9).least, (1, "22", "12"))
        # Of two numbers the one with fewer signs, or the one that is less.
        self.same(Crossing(exactly("012", "020", "22"), hand, exactly("012", "010", "12"), most=9).least,
                  (1, "22", "12"))
        self.same(Crossing(exactly("012", "22", "20"), hand, exactly("012", "10", "12"), most=9).least,
                  (1, "20", "10"))
        # Of two copies likewise.
        self.same(Crossing(exactly("012", "12"), hand, exactly("012", "10", "11"), most=9).least, (1, "12", "10"))
        more = Hand("more", "012", (("a", 1, (("0", ""), ("0", "12"), ("0", "2"), ("0", "1"))),))
        self.same(Crossing(exactly("012", "10"), more, exactly("012", "112", "12"), most=9).least, (1, "10", "12"))
        self.same(Crossing(exactly("012", "10"), more, exactly("012", "112", "12", "1"), most=9).least, (1, "10", "1"))

    def test_the_price_nothing(self):
        both = exactly("012", "21", "1", "02"), exactly("012", "02", "11", "21")
        for most in (0, 1, 9):
            told = Crossing(both[0], Hand("h", "012", (("a", 1, (("1", "11"),)),)), both[1], most=most)
            self.same(told.least, (0, "02", "02"))
        told = Crossing(exactly("012", "1"), Hand("h", "012", (("a", 1, (("1", "11"),)),)), both[1], most=0)
        self.assertIs(bool(told), True)
        told = Crossing(exactly("012", "1"), Hand("h", "012", (("a", 1, (("1", "11"),)),)), both[1])
        self.same(told.least, (1, "1", "11"))

    def test_the_same_series(self):
        series = example_series()
        told = Crossing(series, example_hand(), series)
        number = series.walk.least_paper()
        self.same(told.least, (0, number, number))
        self.assertIs(bool(told), False)

    def test_without_slips(self):
        even, odd = rounds(2), rounds(2, (1,))
        self.same(Crossing(even, NO_HAND, odd, most=9).table, ((0, 0, 0), (1, 1, 0)))
        self.assertIs(bool(Crossing(even, NO_HAND, odd, most=9)), True)
        self.same(Crossing(even, NO_HAND, rounds(3)).least, (0, "", ""))
        self.same(Crossing(rounds(4, (3,)), NO_HAND, rounds(3, (1,))).least, (0, "0" * 7, "0" * 7))

    def test_without_numbers(self):
        none = free_series("none", "01", ("not", ANY))
        for sender, taker in ((none, rounds(2)), (rounds(2), none), (none, none)):
            told = Crossing(sender, OTHER, taker, most=9)
            self.assertIs(bool(told), True)
            self.same((told.table, told.least), ((), None))
            self.assertIsNone(judge_crossing(sender, OTHER, taker, 9, ()))
            self.assertEqual(judge_crossing(sender, OTHER, taker, 9, ((0, 0, 0),)), 0)
            self.assertEqual(judge_crossing(sender, OTHER, taker, 9, None), -1)

    def test_what_the_least_price_needs(self):
        # Two signs more cost 6, five signs fewer would cost 10; one sign alone cannot become three.
        hand = Hand("some", "01", (("lost", 2, (("x", ""),)), ("more", 3, (("x", "xx"),))))
        self.same(Crossing(rounds(7, (1,)), hand, rounds(7, (3,)), most=9).least, (6, "0" * 8, "0" * 10))
        self.assertIs(bool(Crossing(rounds(7, (1,)), hand, rounds(7, (3,)), most=5)), True)
        # Two signs fewer cost 4.
        self.same(Crossing(rounds(7, (3,)), hand, rounds(7, (1,)), most=9).least, (4, "000", "0"))

    def test_long_numbers(self):
        told = Crossing(rounds(41, (40,)), OTHER, rounds(43, (42,)), most=0)
        self.same(told.least, (0, "0" * (41 * 43 - 1), "0" * (41 * 43 - 1)))

    def test_unlike_signs(self):
        one, other = rounds(2), free_series("x", "02")
        for sender, hand, taker in ((other, OTHER, one), (one, Hand("h", "02", ()), one), (one, OTHER, other),
                                    (other, OTHER, other)):
            self.raises(Unlike, {"what": "signs"}, Crossing, sender, hand, taker)
            self.raises(Unlike, {"what": "signs"}, judge_crossing, sender, hand, taker, 1, None)
        large = (rounds(59, (0,)), rounds(60, (0,)))
        self.raises(Unlike, {"what": "signs"}, Crossing, large[0], Hand("h", "02", ()), large[1], most=9)

    def test_two_thousand_entries(self):
        told = Crossing(rounds(25, (1,)), OTHER, rounds(16), most=4)
        self.assertEqual(len(told.table), 2000)
        self.same(told.least, (0, "0" * 176, "0" * 176))
        self.raises(TooMany, {"what": "entry"}, Crossing, rounds(23), OTHER, rounds(29), most=2)
        self.assertEqual(len(Crossing(rounds(23), OTHER, rounds(29), most=1).table), 1334)

    def test_against_a_slow_look(self):
        dice = random.Random(101)
        seen = []
        for _ in range(150):
            sender, taker = some_series(dice, "01"), some_series(dice, "01")
            hand, most = some_hand(dice, "01", 3), dice.randrange(4)
            point = SlowCrossing(sender, hand, taker, most)
            table = slow_table(point)
            if table is None or len(table) > 2000:
                self.raises(TooMany, {"what": "entry"}, Crossing, sender, hand, taker, most=most)
                continue
            told = Crossing(sender, hand, taker, most=most)
            self.same(told.table, table)
            self.assertIs(bool(told), told.least is None)
            self.check_least(told, sender, hand, taker, most)
            self.assertEqual(judge_crossing(sender, hand, taker, most, told.table), slow_judge(point, table))
            self.assertEqual(judge_crossing(sender, hand, taker, most, told.table) is None, bool(told))
            seen.append(told.least[0] if told.least else None)
        self.assertLessEqual({None, 0, 1}, set(seen))

        self.assertGreater(len(seen), 60)

    def check_least(self, told, sender, hand, taker, most):
        found = [(price, key_of(number), key_of(copy)) for number in numbers_upto(sender, 4)
                 for copy, price in copies_upto(hand, number, most).items() if copy in taker]
        if told.least is None:
            self.assertEqual(found, [])
        else:
            price, number, copy = told.least
            self.assertEqual(least_price(hand, number, copy), price)
            self.assertTrue(number in sender and copy in taker)
            least = (price, key_of(number), key_of(copy))
            self.assertEqual(min([*found, least]), least)
            self.assertTrue(len(number) > 4 or least in found)


class TestJudged(Case):
    def setUp(self):
        self.point = (free_series("even", "01", ("sum", 2, (1,), 0)), Hand("swap", "01", (("a", 1, (("xy", "yx"),)),)),
                      free_series("odd", "01", ("sum", 2, (1,), 1)))
        self.table = Crossing(*self.point).table

    def judged(self, table):
        return judge_crossing(*self.point, 1, table)

    def test_right_tables(self):
        table = self.table
        self.assertEqual(table, ((0, 0, 0), (0, 0, 1), (1, 1, 0), (1, 1, 1)))
        for told in (table, table[::-1], table * 3, [list(entry) for entry in table], [*table, list(table[2])]):
            self.assertIsNone(self.judged(told))

    def test_no_table(self):
        for thing in (None, True, 5, "", "000", {}, set(), {(0, 0, 0): 1}, len):
            self.assertEqual(self.judged(thing), -1)

    def test_without_the_beginning(self):
        rest = self.table[1:]
        for table in ((), [], rest, ((False, 0, 0), *rest), ((0, 0, False), *rest), ((0, 0), *rest), (0, 0, 0),
                      ((0, 0, 0, 0), *rest), (self.table, ), (5, *rest), ((0.0, 0, 0), *rest)):
            self.assertEqual(self.judged(table), -1, table)

    def test_entries_without_their_form(self):
        for entry in odd_entries((0, 0, 0)):
            self.assertEqual(self.judged((*self.table, entry)), 4, entry)
            self.assertEqual(self.judged([entry, *self.table]), 0, entry)
        for entry in ((2, 0, 0), (0, 2, 0), (-1, 1, 0), (1, 1, -1), (1, 1, "0"), (1, True, 0), (1, 1, True)):
            self.assertEqual(self.judged((*self.table[:2], entry, *self.table[2:])), 2, entry)

    def test_prices_above_the_most(self):
        for price in (2, 3, 10 ** 39):
            self.assertEqual(self.judged((*self.table, (0, 0, price))), 4)

    def test_standings_that_are_not_live(self):
        few = exactly("01", "0")
        table = Crossing(few, OTHER, exactly("01", "11")).table
        self.same(table, ((0, 0, 0), (1, 2, 1)))
        self.assertEqual((few.walk.live, exactly("01", "11").walk.live), ((0, 1), (0, 2, 3)))
        self.assertIsNone(judge_crossing(few, OTHER, exactly("01", "11"), 1, table))
        for entry in ((2, 0, 0), (0, 1, 0), (2, 1, 0)):
            self.assertEqual(judge_crossing(few, OTHER, exactly("01", "11"), 1, (*table, entry)), 2)

    def test_bad_entries(self):
        self.assertEqual(self.judged((*self.table, (0, 1, 0), (1, 0, 0))), 4)
        self.assertEqual(self.judged((*self.table, (1, 0, 0), (1, 0, 1), (0, 1, 0), (0, 1, 1))), 6)
        even = self.point[0]
        self.assertEqual(judge_crossing(even, self.point[1], even, 1, self.table), 0)

    def test_steps_that_lead_out_of_the_table(self):
        # In the order of the entries: from (0, 0, 0) to (0, 0, 1), from (0, 0, 1) to (1, 1, 1) and so on.
        for k in range(1, 4):
            table = self.table[:k] + self.table[k + 1:]
            self.assertEqual(self.judged(table), slow_judge(SlowCrossing(*self.point, 1), table))
            self.assertIsNotNone(self.judged(table))

    def test_entries_that_were_never_reached(self):
        even, odd = rounds(4, (0,)), rounds(4, (1,))
        table = Crossing(even, NO_HAND, odd).table
        self.assertEqual(table, ((0, 0, 0), (1, 1, 0), (2, 2, 0), (3, 3, 0)))
        more = ((0, 2, 0), (1, 3, 0), (2, 0, 0), (3, 1, 0))
        self.assertIsNone(judge_crossing(even, NO_HAND, odd, 0, table + more))
        self.assertIsNone(judge_crossing(even, NO_HAND, odd, 1, table + ((0, 2, 1), (1, 3, 1), (2, 0, 1), (3, 1, 1))))
        # In this round one entry is bad.
        more = ((3, 0, 0), (0, 1, 0), (1, 2, 0), (2, 3, 0))
        self.assertEqual(judge_crossing(even, NO_HAND, odd, 0, table + more), 5)

    def test_large_tables(self):
        sender, taker = rounds(46, (0,)), rounds(58, (1,))
        self.raises(TooMany, {"what": "entry"}, Crossing, sender, OTHER, taker, most=2)
        table = tuple((k % 46, k % 58, price) for k in range(46 * 29) for price in range(3))
        self.assertIsNone(judge_crossing(sender, OTHER, taker, 2, table))
        # The last entry is reached from the entries of one sign less that have the price 1 or 2.
        self.assertEqual(judge_crossing(sender, OTHER, taker, 2, table[:-1]), len(table) - 5)
        self.assertEqual(judge_crossing(sender, OTHER, taker, 2, (*table, 5)), len(table))
        self.assertIsNone(self.judged(self.table * 2000))

    def test_deep_things(self):
        deep = 0
        for _ in range(60):
            deep = [deep, deep]
        self.assertEqual(self.judged((*self.table, deep)), 4)
        self.assertEqual(self.judged((*self.table, (0, 0, deep))), 4)
        self.assertEqual(self.judged(deep), -1)

    def test_what_is_passed_stays(self):
        table = [[0, 0, 0], (0, 0, 1), [5]]
        self.judged(table)
        self.assertEqual(table, [[0, 0, 0], (0, 0, 1), [5]])

    def test_against_a_slow_look(self):
        dice = random.Random(103)
        told = []
        for _ in range(60):
            things = some_series(dice, "01"), some_hand(dice, "01", 2), some_series(dice, "01")
            most = dice.randrange(3)
            point = SlowCrossing(*things, most)
            table = slow_table(point, 150)
            for _ in range(6 if table else 0):
                other = spoilt(dice, table, odd_entries((0, 0, 0)))
                told.append(judge_crossing(*things, most, other))
                self.assertEqual(told[-1], slow_judge(point, other), other)
        self.assertTrue(None in told and -1 in told and 0 in told and 2 in told)
