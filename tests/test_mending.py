"""Promises [10] and [19]: what a paper can mean, whether it means at most one number, and the table for it."""

import random

from brute import SlowMending, copies_upto, key_of, numbers_upto, papers_upto, slow_judge, slow_table
from handcarried.errors import BadPaper, TooMany, Unlike
from handcarried.finding import Finding
from handcarried.hands import Hand
from handcarried.mending import Mending, judge_mending, meant
from handcarried.prices import least_price
from handcarried.series import Series
from helpers import ODD_THINGS, Case, example_hand, example_series, free_series
from judged import odd_entries, spoilt
from test_crossings import NO_HAND, OTHER, exactly, rounds, some_series
from test_prices import some_hand

ANY = ("any",)
ALL = free_series("all", "01")
NONE = free_series("none", "01", ("not", ANY))
TWELVE = "0123456789AB"


def slow_meant(numbers, hand, most):
    """For each paper that some numbers have as a copy what it can mean, in the order told."""
    out = {}
    for number in numbers:
        for copy, price in copies_upto(hand, number, most).items():
            out.setdefault(copy, []).append((price, number))
    return {copy: sorted(rows, key=lambda row: (row[0], key_of(row[1]))) for copy, rows in out.items()}


def of_signs(many, signs):
    """The series of all papers of so many signs, 1 to 12."""
    return Series("some", signs, (("run", "a", signs, many, many),), ANY)


class TestMeant(Case):
    def test_price_then_number_in_order(self):
        hand = Hand("some", "012", (("a", 2, (("1", "0"), ("2", "0"), ("21", "0"))), ("b", 1, (("11", "0"), ("x", "xx")))))
        series = free_series("all", "012")
        self.same(meant(series, hand, "0", most=2), ((0, "0"), (1, "11"), (2, "1"), (2, "2"), (2, "21")))
        self.same(meant(series, hand, "0"), ((0, "0"), (1, "11")))
        self.same(meant(series, hand, "0", most=0), ((0, "0"),))
        self.same(meant(series, hand, "22"), ((0, "22"), (1, "2")))

    def test_papers_that_are_no_numbers(self):
        series = exactly("012", "01", "02", "21", "1")
        hand = Hand("some", "012", (("a", 1, (("x", "y"),)),))
        self.same(meant(series, hand, "22"), ((1, "02"), (1, "21")))
        self.same(meant(series, hand, "01"), ((0, "01"), (1, "02"), (1, "21")))
        self.same(meant(series, hand, "000"), ())
        self.same(meant(series, hand, "10", most=9), ((2, "01"), (2, "02"), (2, "21")))
        self.same(meant(NONE, OTHER, "01", most=9), ())
        self.same(meant(ALL, NO_HAND, "01", most=9), ((0, "01"),))
        self.same(meant(exactly("01", "10"), NO_HAND, "01", most=9), ())

    def test_the_empty_paper(self):
        hand = Hand("some", "01", (("lost", 4, (("x", ""), ("11", ""))),))
        self.same(meant(ALL, hand, "", most=9), (
            (0, ""), (4, "0"), (4, "1"), (4, "11"), (8, "00"), (8, "01"), (8, "10"), (8, "011"), (8, "110"),
            (8, "111"), (8, "1111")))
        self.same(meant(exactly("01", "0110"), hand, "", most=9), ())
        self.same(meant(ALL, OTHER, "", most=9), ((0, ""),))

    def test_the_least_price(self):
        hand = Hand("some", "01", (("a", 3, (("0", "1"), ("1", "0"))), ("b", 2, (("01", "10"),)), ("c", 9, (("00", "11"),))))
        self.same(dict((number, price) for price, number in meant(ALL, hand, "10", most=9)),
                  {"10": 0, "01": 2, "00": 3, "11": 3})
        self.same(meant(ALL, hand, "11", most=9), ((0, "11"), (3, "01"), (3, "10"), (6, "00")))

    def test_sixty_signs(self):
        paper = "0123" * 15
        told = meant(free_series("all", "0123"), example_hand(), paper)
        self.assertEqual(len(told), 60)
        self.assertEqual(told[0], (0, paper))
        hand = Hand("some", "0123", (("lost", 5, (("333", ""),)),))
        # A number of 63 signs: the three are put behind one of the threes, or at another place.
        told = meant(free_series("all", "0123"), hand, paper, most=9)
        self.assertEqual({len(number) for _, number in told}, {60, 63})
        self.assertEqual(len(told), 1 + 61 - 15)

    def test_two_hundred(self):
        hand = Hand("some", TWELVE, (("a", 1, tuple((sign, "0") for sign in "123456789A")),
                                     ("b", 1, tuple((sign, "1") for sign in "23456789A"))))
        series = free_series("all", TWELVE)
        # The paper itself, ten other signs for each 0, nine for each 1.
        for zeros, ones in ((10, 11), (19, 1), (1, 21)):
            self.assertEqual(len(meant(series, hand, "0" * zeros + "1" * ones)), 1 + 10 * zeros + 9 * ones)
        self.assertEqual(len(meant(series, hand, "0" * 19 + "1")), 200)
        self.assertEqual(len(meant(series, hand, "B" * 9 + "0" * 19 + "1")), 200)
        for paper in ("0" * 20, "1" * 10 + "0" * 11, "0" * 60):
            self.raises(TooMany, {"what": "number"}, meant, series, hand, paper)
        self.assertEqual(len(meant(series, hand, "0" * 60, most=0)), 1)
        self.raises(TooMany, {"what": "number"}, meant, series, Hand("some", TWELVE, (("a", 1, (("x", "y"),)),)),
                    "0" * 60, most=9)

    def test_two_hundred_and_one(self):
        # 200 numbers of 2 and 3 signs that become one paper; then one more.
        rows = tuple((one + other, "0") for one in TWELVE for other in TWELVE)
        hand = Hand("some", TWELVE, (("a", 2, rows), ("b", 3, tuple((sign, "0") for sign in TWELVE[1:])),
                                     ("c", 4, tuple((sign + "00", "0") for sign in TWELVE)),
                                     ("d", 5, tuple((sign + "11", "0") for sign in TWELVE)),
                                     ("e", 6, tuple((sign + "22", "0") for sign in TWELVE))))
        self.assertEqual(len(hand.pairs), 144 + 11 + 36)
        series = free_series("all", TWELVE)
        self.assertEqual(len(meant(series, hand, "0", most=6)), 192)
        more = tuple((sign + "33", "0") for sign in TWELVE)
        self.assertEqual(len(meant(series, Hand("some", TWELVE, (*hand.slips, ("f", 7, more[:8]))), "0", most=9)), 200)
        nine = Hand("some", TWELVE, (*hand.slips, ("f", 7, more[:9])))
        self.raises(TooMany, {"what": "number"}, meant, series, nine, "0", most=9)
        self.raises(TooMany, {"what": "number"}, meant, series, nine, "0", most=7)
        self.assertEqual(len(meant(series, nine, "0", most=6)), 192)

    def test_many_beginnings_of_few_numbers(self):
        # Nearly everything that is begun leads to no number, and what leads to one is no more than one.
        series = Series("few", "01", tuple(("run", name, "1", 12, 12) for name in "abcde"), ANY)
        self.same(meant(series, OTHER, "1" * 55 + "0" * 5, most=9), ((5, "1" * 60),))
        self.same(meant(series, OTHER, "1" * 55 + "0" * 5, most=4), ())

        # A 0 must become a 1; two slips would have to do the same. What is begun otherwise leads to no number.
        series = free_series("ones", "01", ("sum", 29, (1,), 0))
        told = meant(series, OTHER, "0" * 28 + "1" * 28, most=2)
        self.assertEqual([price for price, _ in told], [1] * 28)
        self.assertEqual(told[0][1], "0" * 27 + "1" * 29)

    def test_the_order_of_the_errors(self):
        long = "0" * 61
        self.raises(Unlike, {"what": "signs"}, meant, ALL, example_hand(), long)
        for paper in (long, "2", *ODD_THINGS):
            if paper not in ("", "01"):
                self.raises(BadPaper, {"paper": paper}, meant, ALL, OTHER, paper)
                self.raises(BadPaper, {"paper": paper}, meant, NONE, OTHER, paper, most=9)
        self.assertEqual(len(meant(ALL, OTHER, "0" * 60)), 61)

    def test_against_a_slow_look(self):
        dice = random.Random(131)
        for _ in range(60):
            series, hand, most = some_series(dice, "01"), some_hand(dice, "01", 4), dice.randrange(5)
            grown = max([len(before) - len(behind) for before, behind, _ in hand.pairs], default=0)
            cheap = min([price for _, _, price in hand.pairs], default=9)
            # No number of more signs than this can become a paper of two.
            longest = 2 + max(grown, 0) * (most // cheap)
            if longest > 8:
                continue
            told = slow_meant(numbers_upto(series, longest), hand, most)
            for paper in papers_upto("01", 2):
                wanted = told.get(paper, [])
                if len(wanted) > 200:
                    self.raises(TooMany, {"what": "number"}, meant, series, hand, paper, most=most)
                else:
                    self.same(meant(series, hand, paper, most=most), tuple(wanted))


class TestMending(Case):
    def test_at_most_one(self):
        # Three places of the same sign: one slip leaves two of them.
        series = exactly("01", "000", "111")
        told = Mending(series, OTHER)
        self.assertIs(bool(told), True)
        self.assertIsNone(told.doubtful)
        self.assertIsNone(judge_mending(series, OTHER, 1, told.table))
        told = Mending(series, OTHER, most=2)
        self.assertIs(bool(told), False)
        self.same(told.doubtful, ("001", "000", "111"))

    def test_the_first_two_by_price_then_in_order(self):
        hand = Hand("some", "012", (("a", 2, (("1", "0"), ("2", "0"))), ("b", 1, (("22", "0"),))))
        self.same(Mending(exactly("012", "1", "2", "22"), hand, most=2).doubtful, ("0", "22", "1"))
        self.same(Mending(exactly("012", "1", "2"), hand, most=2).doubtful, ("0", "1", "2"))
        self.same(Mending(exactly("012", "0", "2", "22"), hand, most=2).doubtful, ("0", "0", "22"))
        self.same(Mending(exactly("012", "0", "2", "22"), hand, most=1).doubtful, ("0", "0", "22"))
        self.assertIs(bool(Mending(exactly("012", "1", "2", "22"), hand, most=1)), True)
        self.assertIs(bool(Mending(exactly("012", "1", "2", "22"), hand, most=0)), True)

    def test_second_numbers_that_are_like_the_first_in_part(self):
        hand = Hand("some", "01", (("lost", 1, (("x", ""),)),))
        self.same(Mending(exactly("01", "0", "10"), hand).doubtful, ("0", "0", "10"))
        self.same(Mending(exactly("01", "0", "01"), hand).doubtful, ("0", "0", "01"))
        self.same(Mending(exactly("01", "0", "100"), hand, most=2).doubtful, ("0", "0", "100"))
        self.same(Mending(exactly("01", "01", "1"), hand).doubtful, ("1", "1", "01"))
        self.same(Mending(exactly("01", "01", "0101"), hand, most=2).doubtful, ("01", "01", "0101"))

    def test_the_least_paper(self):
        # The paper 1 can mean both, too, and so can 00 and others.
        hand = Hand("some", "01", (("a", 1, (("00", "1"), ("11", "1"), ("00", "10"), ("11", "10"))),))
        self.same(Mending(exactly("01", "00", "11"), hand).doubtful, ("1", "00", "11"))
        hand = Hand("some", "01", (("a", 1, (("00", "1"), ("11", "1"), ("00", "0"), ("11", "0"))),))
        self.same(Mending(exactly("01", "00", "11"), hand).doubtful, ("0", "00", "11"))
        hand = Hand("some", "01", (("a", 1, (("xx", ""), ("xx", "0"))),))
        self.same(Mending(exactly("01", "00", "11"), hand).doubtful, ("", "00", "11"))

    def test_a_number_with_a_copy_that_is_another_one(self):
        self.same(Mending(ALL, OTHER).doubtful, ("0", "0", "1"))
        self.assertIs(bool(Mending(ALL, OTHER, most=0)), True)
        self.same(Mending(rounds(2), OTHER).doubtful, ("00", "00", "01"))

    def test_numbers_of_unlike_lengths(self):
        hand = Hand("some", "01", (("lost", 1, (("x", ""),)), ("more", 1, (("x", "xx"),))))
        self.same(Mending(rounds(2), hand).doubtful, ("0", "00", "01"))
        self.same(Mending(exactly("01", "1", "101"), hand).doubtful, ("11", "1", "101"))
        self.same(Mending(exactly("01", "1", "0101"), hand, most=2).doubtful, ("11", "1", "0101"))

    def test_without_numbers_and_without_slips(self):
        told = Mending(NONE, OTHER, most=9)
        self.same((bool(told), told.table, told.doubtful), (True, (), None))
        self.assertIsNone(judge_mending(NONE, OTHER, 9, ()))
        self.assertEqual(judge_mending(NONE, OTHER, 9, ((0, 0, 0, 0, "=", "="),)), 0)
        told = Mending(ALL, NO_HAND, most=9)
        self.same(told.table, ((0, 0, 0, 0, "+0", "+0"), (0, 0, 0, 0, "+1", "+1"), (0, 0, 0, 0, "-0", "-0"),
                               (0, 0, 0, 0, "-1", "-1"), (0, 0, 0, 0, "=", "=")))
        self.assertIs(bool(told), True)

    def test_long_papers(self):
        form = (*[("run", name, "0", 12, 12) for name in "abcde"], ("run", "f", "0", 11, 12))
        zeros = Series("zeros", "01", form, ANY)
        hand = Hand("some", "01", (("lost", 1, (("0", ""),)),))
        self.same(Mending(zeros, hand).doubtful, ("0" * 71, "0" * 71, "0" * 72))
        self.same(Mending(zeros, hand, most=2).doubtful, ("0" * 70, "0" * 71, "0" * 72))

    def test_more_numbers_than_meant_tells(self):
        hand = Hand("some", "01", (("a", 1, (("1", "0"),)),))
        series = of_signs(12, "01")
        told = Mending(series, hand, most=3)
        self.same(told.doubtful, ("0" * 12, "0" * 12, "0" * 11 + "1"))
        self.raises(TooMany, {"what": "number"}, meant, series, hand, "0" * 12, most=3)
        # Three slips, as 220 numbers have three ones; the two least of these are told.
        threes = Series("threes", "01", (("run", "a", "01", 12, 12),), ("sum", 13, (1,), 3))
        told = Mending(threes, hand, most=3)
        self.same(told.doubtful, ("0" * 12, "0" * 9 + "111", "0" * 8 + "1011"))
        self.raises(TooMany, {"what": "number"}, meant, threes, hand, "0" * 12, most=3)

    def test_unlike_signs(self):
        self.raises(Unlike, {"what": "signs"}, Mending, ALL, example_hand())
        self.raises(Unlike, {"what": "signs"}, judge_mending, ALL, example_hand(), 1, None)

    def test_two_thousand_entries(self):
        hand = Hand("some", "01", (("a", 2, (("zy", "x1z"),)), ("b", 3, (("z", "x0"), ("101", "1xz")))))
        told = Mending(rounds(16), hand, most=2)
        self.assertEqual(len(told.table), 2000)
        self.same(told.table, slow_table(SlowMending(rounds(16), hand, 2)))
        hand = Hand("some", "01", (("a", 1, (("1", "01"),)),))
        self.assertEqual(len(slow_table(SlowMending(rounds(29), hand, 2))), 2001)
        self.raises(TooMany, {"what": "entry"}, Mending, rounds(29), hand, most=2)
        self.assertLess(len(Mending(rounds(28), hand, most=2).table), 2000)

    def test_against_a_slow_look(self):
        dice = random.Random(137)
        seen = []
        for _ in range(200):
            series, hand, most = some_series(dice, "01"), some_hand(dice, "01", 3), dice.randrange(3)
            table = slow_table(SlowMending(series, hand, most), 400)
            if table is None:
                continue
            told = Mending(series, hand, most=most)
            self.same(told.table, table)
            self.assertIs(bool(told), told.doubtful is None)
            self.assertEqual(judge_mending(series, hand, most, table), slow_judge(SlowMending(series, hand, most), table))
            self.assertEqual(judge_mending(series, hand, most, table) is None, bool(told))
            self.check_doubtful(told, series, hand, most)
            if told:
                # Then no number is missed, and each is told alone for its copies.
                self.assertIs(bool(Finding(series, hand, most=most)), True)
                for number in numbers_upto(series, 3):
                    for copy, price in copies_upto(hand, number, most).items():
                        self.same(meant(series, hand, copy, most=most), ((price, number),))
            seen.append(bool(told))
        self.assertGreater(seen.count(True), 20)
        self.assertGreater(seen.count(False), 20)

    def check_doubtful(self, told, series, hand, most):
        slow = slow_meant(numbers_upto(series, 5), hand, most)
        doubtful = sorted([copy for copy, rows in slow.items() if len(rows) > 1], key=key_of)
        if told.doubtful is None:
            self.assertEqual(doubtful, [])
            return
        paper, first, second = told.doubtful
        self.assertTrue(first in series and second in series and first != second)
        rows = [(least_price(hand, number, paper), key_of(number)) for number in (first, second)]
        self.assertEqual(rows, sorted(rows))
        self.assertLessEqual(rows[1][0], most)
        self.assertLessEqual(key_of(paper), key_of(doubtful[0]) if doubtful else key_of(paper))
        # All numbers that this paper can mean, if there are not too many of them.
        try:
            told_all = meant(series, hand, paper, most=most)
        except TooMany:
            return
        self.assertEqual([number for _, number in told_all[:2]], [first, second])
        if max(len(first), len(second)) <= 5:
            self.assertEqual(paper, doubtful[0])


class TestJudged(Case):
    def setUp(self):
        self.series = exactly("01", "000", "111")
        self.table = Mending(self.series, OTHER).table
        self.many = len(self.table)

    def judged(self, table):
        return judge_mending(self.series, OTHER, 1, table)

    def test_right_tables(self):
        table = self.table
        for told in (table, table[::-1], table * 3, [list(entry) for entry in table], [*table, list(table[2])]):
            self.assertIsNone(self.judged(told))

    def test_no_table(self):
        for thing in (None, True, 5, "", "0000==", {}, set(), {(0, 0, 0, 0, "=", "="): 1}, len):
            self.assertEqual(self.judged(thing), -1)

    def test_without_the_beginning(self):
        beginning = (0, 0, 0, 0, "=", "=")
        rest = tuple(entry for entry in self.table if entry != beginning)
        self.assertEqual(len(rest), self.many - 1)
        for table in ((), rest, ((False, 0, 0, 0, "=", "="), *rest), (beginning[:5], *rest), beginning,
                      ((0, 0, 0, 0, "=", "#"), *rest), ((0, 0, 0, False, "=", "="), *rest)):
            self.assertEqual(self.judged(table), -1, table)
        self.assertIsNone(self.judged((*rest, beginning)))

    def test_entries_without_their_form(self):
        for entry in odd_entries((0, 0, 0, 0, "=", "=")):
            self.assertEqual(self.judged((*self.table, entry)), self.many, entry)
            self.assertEqual(self.judged([entry, *self.table]), 0, entry)

    def test_left_out_and_bad_entries(self):
        goals = self.series.walk.goals
        for entry in ((0, 0, 2, 0, "=", "="), (0, 0, 0, 2, "=", "="), (0, 0, 0, 0, "#", "="), (0, 0, 1, 1, "#", "#"),
                      (goals[0], goals[0], 0, 0, "=", "#"), (goals[0], goals[0], 1, 1, "=", "+0")):
            self.assertEqual(self.judged((*self.table, entry)), self.many, entry)
            self.assertEqual(self.judged((entry, *self.table)), 0, entry)
        # From these no step leads on, but their prices are above the most.
        for entry in ((goals[0], goals[0], 2, 0, "-0", "#"), (goals[0], goals[0], 0, 2, "-0", "#")):
            self.assertEqual(self.judged((*self.table, entry)), self.many, entry)
        dead = [at for at in range(len(self.series.walk)) if at not in self.series.walk.live][0]
        for entry in ((dead, 0, 0, 0, "=", "="), (0, dead, 0, 0, "=", "=")):
            self.assertEqual(self.judged((*self.table, entry)), self.many)
        # Of two equal numbers the lag is "=": such an entry is not bad.
        self.assertIn((goals[0], goals[0], 0, 0, "=", "="), self.table)

    def test_entries_that_were_never_reached(self):
        # From these no step leads to anything that is live.
        goal = self.series.walk.goals[0]
        self.assertIsNone(self.judged((*self.table, (goal, goal, 0, 1, "-0", "#"), (goal, goal, 1, 1, "+01", "-1"))))
        self.assertEqual(self.judged((*self.table, (0, 0, 0, 1, "-0", "="))), self.many)

    def test_steps_that_lead_out_of_the_table(self):
        point = SlowMending(self.series, OTHER, 1)
        for k in range(self.many):
            table = self.table[:k] + self.table[k + 1:]
            self.assertEqual(self.judged(table), slow_judge(point, table))
            self.assertIsNotNone(self.judged(table))

    def test_large_tables(self):
        self.assertIsNone(self.judged(self.table * 50))
        self.assertEqual(self.judged((*self.table * 50, 5)), 50 * self.many)
        self.assertGreater(50 * self.many, 2000)

    def test_against_a_slow_look(self):
        dice = random.Random(139)
        told = []
        for _ in range(60):
            series, hand, most = some_series(dice, "01"), some_hand(dice, "01", 2), dice.randrange(2)
            point = SlowMending(series, hand, most)
            table = slow_table(point, 150)
            for _ in range(6 if table else 0):
                other = spoilt(dice, table, odd_entries((0, 0, 0, 0, "=", "=")))
                told.append(judge_mending(series, hand, most, other))
                self.assertEqual(told[-1], slow_judge(point, other), other)
        self.assertTrue(None in told and -1 in told and 0 in told and 2 in told)

    def test_the_example_of_the_house(self):
        self.raises(TooMany, {"what": "entry"}, Mending, example_series(), example_hand(), most=3)
