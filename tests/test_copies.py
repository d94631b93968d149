"""Promise [15]: the copies of a paper up to a price."""

import random

from brute import copies_upto, key_of
from handcarried.copies import copies_of
from handcarried.errors import BadPaper, TooMany
from handcarried.hands import Hand
from handcarried.prices import least_price
from helpers import ODD_THINGS, Case, example_hand
from test_prices import some_hand


class TestCopies(Case):
    def test_ordinary_copies(self):
        self.same(copies_of(example_hand(), "0012"), ((0, "0012"), (1, "0021"), (1, "0102")))
        self.same(copies_of(example_hand(), "0012", most=2), (
            (0, "0012"), (1, "0021"), (1, "0102"), (2, "001"), (2, "002"), (2, "012")))
        self.same(copies_of(example_hand(), "3"), ((0, "3"),))

    def test_price_then_copy_in_order(self):
        hand = Hand("some", "012", (("a", 2, (("1", ""), ("1", "0"), ("1", "20"), ("1", "2"))), ("b", 1, (("1", "110"),))))
        self.same(copies_of(hand, "1", most=2), ((0, "1"), (1, "110"), (2, ""), (2, "0"), (2, "2"), (2, "20")))

    def test_the_paper_itself_is_the_first(self):
        for paper in ("", "0", "0123" * 15):
            self.same(copies_of(example_hand(), paper, most=0), ((0, paper),))
            self.same(copies_of(example_hand(), paper)[0], (0, paper))
        # Though two slips bring it back, too.
        hand = Hand("some", "01", (("a", 1, (("x", "y"),)),))
        self.same(copies_of(hand, "01", most=2), ((0, "01"), (1, "00"), (1, "11"), (2, "10")))

    def test_the_empty_paper(self):
        for most in (0, 1, 9):
            self.same(copies_of(example_hand(), "", most=most), ((0, ""),))
        hand = Hand("some", "01", (("lost", 9, (("x", ""),)),))
        self.same(copies_of(hand, "1", most=9), ((0, "1"), (9, "")))
        self.same(copies_of(hand, "1", most=8), ((0, "1"),))

    def test_the_least_price(self):
        hand = Hand("some", "01", (("two", 4, (("00", "1"),)), ("one", 1, (("0", "1"), ("0", ""))), ))
        self.same(copies_of(hand, "00", most=9), ((0, "00"), (1, "0"), (1, "01"), (1, "10"), (2, ""), (2, "1"), (2, "11")))

    def test_up_to_nine(self):
        hand = Hand("some", "012", (("a", 1, (("0", "1"),)), ("b", 4, (("0", "2"),))))
        told = copies_of(hand, "0000", most=9)
        self.assertEqual({copy: price for price, copy in told}, copies_upto(hand, "0000", 9))
        self.assertEqual(max(price for price, _ in told), 9)
        self.assertNotIn("2220", [copy for _, copy in told])

    def test_longer_copies(self):
        hand = Hand("some", "01", (("more", 3, (("0", "000"),)),))
        self.same(copies_of(hand, "0" * 60, most=9), ((0, "0" * 60), (3, "0" * 62), (6, "0" * 64), (9, "0" * 66)))

    def test_five_hundred(self):
        # Ten other signs for each 0, nine for a 1: with one slip 49 * 10 + 9 copies, and the paper itself.
        signs = "0123456789AB"
        ten = ("ten", 1, tuple(("0", sign) for sign in "23456789AB"))
        nine = ("nine", 1, tuple(("1", sign) for sign in "23456789A"))
        hand = Hand("some", signs, (ten, nine))
        for paper in ("0" * 49 + "1", "1" + "0" * 49, "0" * 20 + "1" + "0" * 29 + "B"):
            self.assertEqual(len(copies_of(hand, paper)), 500)
        for paper in ("0" * 50, "0" * 49 + "11", "0" * 60):
            self.raises(TooMany, {"what": "copy"}, copies_of, hand, paper)
        self.assertEqual(len(copies_of(hand, "0" * 60, most=0)), 1)

    def test_five_hundred_with_several_slips(self):
        # Five signs at three places, and two signs at two: 5 * 5 * 5 * 2 * 2.
        hand = Hand("some", "01234567", (("a", 1, tuple(("0", sign) for sign in "2345")), ("b", 2, (("1", "6"),))))
        told = copies_of(hand, "01010", most=7)
        self.assertEqual(len(told), 500)
        self.assertEqual(told[-1], (7, "56565"))
        self.assertEqual(len(copies_of(hand, "01010", most=6)), 500 - 64)
        # One slip more makes just one copy more.
        more = Hand("more", "01234567", (*hand.slips, ("c", 7, (("010", ""),))))
        self.assertEqual(len(copies_of(more, "01010", most=6)), 500 - 64)
        self.raises(TooMany, {"what": "copy"}, copies_of, more, "01010", most=7)
        # Very many copies are soon too many.
        wide = Hand("wide", "0123456789AB", (("a", 1, (("x", "y"),)),))
        self.raises(TooMany, {"what": "copy"}, copies_of, wide, "0" * 60, most=9)

    def test_the_same_copy_in_several_ways_counts_once(self):
        # A copy tells only how many signs are left.
        hand = Hand("some", "01", (("lost", 1, (("x", ""),)), ("two", 1, (("xx", ""), ("xx", "x"), ("xxx", "x")))))
        told = copies_of(hand, "0" * 60, most=9)
        self.assertEqual([copy for _, copy in told[:3]], ["0" * 60, "0" * 58, "0" * 59])
        self.assertEqual(len(told), 19)

    def test_bad_papers(self):
        hand = example_hand()
        for paper in ("4", "0" * 61, *ODD_THINGS):
            if paper not in ("", "01"):
                self.raises(BadPaper, {"paper": paper}, copies_of, hand, paper)
                self.raises(BadPaper, {"paper": paper}, copies_of, hand, paper, most=9)

    def test_against_a_slow_look(self):
        dice = random.Random(73)
        for _ in range(150):
            hand = some_hand(dice, "01", 5)
            paper = "".join(dice.choice("01") for _ in range(dice.randrange(5)))
            most = dice.randrange(10)
            wanted = sorted(((price, copy) for copy, price in copies_upto(hand, paper, most).items()),
                            key=lambda pair: (pair[0], key_of(pair[1])))
            if len(wanted) > 500:
                self.raises(TooMany, {"what": "copy"}, copies_of, hand, paper, most=most)
            else:
                self.same(copies_of(hand, paper, most=most), tuple(wanted))
                for price, copy in wanted[:5]:
                    self.assertEqual(least_price(hand, paper, copy), price)
