"""Promise [9]: least prices, and the copyings that have them."""

import random

from brute import copies_upto, copyings_upto
from handcarried.errors import BadPaper, TooMany
from handcarried.hands import Hand
from handcarried.prices import copying_of, least_price
from helpers import ODD_THINGS, Case, example_hand
from test_hands import some_pattern

SWAP = Hand("some", "012", (("swap", 1, (("xy", "yx"),)),))
NONE = Hand("none", "01", ())


def some_hand(dice, signs, most=9):
    """A hand of up to three slips that has not too many pairs."""
    while True:
        try:
            return Hand("some", signs, tuple((name, dice.randrange(1, most + 1),
                                              tuple(some_pattern(dice, signs) for _ in range(dice.randrange(1, 3))))
                                             for name in "abc"[:dice.randrange(4)]))
        except TooMany:
            continue


class TestPrices(Case):
    def told(self, hand, paper, copy, price, copying):
        self.same(least_price(hand, paper, copy), price)
        self.same(copying_of(hand, paper, copy), copying)
        if copying is not None:
            self.same(hand(copying), (paper, copy, price))

    def test_the_example(self):
        self.told(SWAP, "0122", "1022", 1, (("01", "10"), ("2", "2"), ("2", "2")))

    def test_ordinary_papers(self):
        self.told(SWAP, "012", "012", 0, (("0", "0"), ("1", "1"), ("2", "2")))
        self.told(SWAP, "0101", "1010", 2, (("01", "10"), ("01", "10")))
        self.told(example_hand(), "0123", "103", 3, (("01", "10"), ("2", ""), ("3", "3")))

    def test_no_copying(self):
        # Slips do not overlap: a sign is exchanged but once.
        for paper, copy in (("012", "120"), ("0", "1"), ("01", "0"), ("0", "01"), ("", "0"), ("0", "")):
            self.told(SWAP, paper, copy, None, None)
        self.told(NONE, "01", "10", None, None)
        self.told(NONE, "01", "01", 0, (("0", "0"), ("1", "1")))

    def test_the_first_of_the_cheapest(self):
        hand = Hand("some", "01", (("lost", 2, (("x", ""),)), ("two", 4, (("xy", ""),)), ("one", 2, (("xx", "x"),))))
        # Left out are two of three zeros, by two pieces for 4 or by one for 4.
        self.told(hand, "000", "0", 4, (("0", ""), ("0", ""), ("0", "0")))
        self.told(hand, "00", "0", 2, (("0", ""), ("0", "0")))
        self.told(hand, "0100", "010", 2, (("0", "0"), ("1", "1"), ("0", ""), ("0", "0")))
        # As tuples: the piece ("0", "") comes ahead of ("0", "0"), and this one ahead of ("00", "0").
        hand = Hand("some", "01", (("one", 2, (("xx", "x"),)), ("late", 2, (("10", "1"), ("1", "")))))
        self.told(hand, "0010", "001", 2, (("0", "0"), ("0", "0"), ("10", "1")))
        self.told(hand, "0010", "010", 2, (("00", "0"), ("1", "1"), ("0", "0")))
        self.told(hand, "0110", "010", 2, (("0", "0"), ("1", ""), ("1", "1"), ("0", "0")))
        # A cheaper copying goes ahead of one that is less as a tuple.
        hand = Hand("some", "01", (("lost", 3, (("x", ""),)), ("one", 2, (("xx", "x"),))))
        self.told(hand, "00", "0", 2, (("00", "0"),))

    def test_pieces_of_unlike_lengths(self):
        hand = Hand("some", "012", (("a", 1, (("0", "11"), ("0", "1"))), ("b", 1, (("2", ""), ("2", "12")))))
        self.told(hand, "02", "112", 1, (("0", "11"), ("2", "2")))
        self.told(hand, "022", "112", 2, (("0", "11"), ("2", ""), ("2", "2")))
        hand = Hand("some", "012", (("a", 3, (("01", "20"),)), ("b", 1, (("0", "2"),)), ("c", 2, (("1", "0"),))))
        self.told(hand, "01", "20", 3, (("0", "2"), ("1", "0")))
        hand = Hand("some", "012", (("a", 3, (("0", "1"), ("0", "12"), ("1", "2"), ("1", ""))),))
        self.told(hand, "01", "12", 6, (("0", "1"), ("1", "2")))

    def test_behinds_that_are_empty_or_longer(self):
        hand = Hand("some", "012", (("lost", 2, (("x", ""),)), ("more", 3, (("0", "012"), ("12", "120")))))
        self.told(hand, "012", "", 6, (("0", ""), ("1", ""), ("2", "")))
        self.told(hand, "00", "012012", 6, (("0", "012"), ("0", "012")))
        self.told(hand, "120", "120", 0, (("1", "1"), ("2", "2"), ("0", "0")))
        self.told(hand, "12", "120", 3, (("12", "120"),))
        self.told(hand, "120", "1200", 3, (("12", "120"), ("0", "0")))
        self.told(hand, "0", "0121", None, None)

    def test_two_slips_that_bring_the_paper_back(self):
        hand = Hand("some", "01", (("a", 1, (("x", "y"),)),))
        self.told(hand, "01", "01", 0, (("0", "0"), ("1", "1")))
        self.assertIn(((("0", "1"), ("1", "0")), 2), [row for row in copyings_upto(hand, "01", 2)])
        hand = Hand("some", "01", (("lost", 1, (("0", ""),)), ("twice", 1, (("0", "00"),))))
        self.told(hand, "00", "00", 0, (("0", "0"), ("0", "0")))

    def test_empty_papers(self):
        self.told(SWAP, "", "", 0, ())
        self.told(NONE, "", "", 0, ())
        lost = Hand("some", "01", (("lost", 9, (("x", ""), ("xxx", ""))),))
        self.told(lost, "1", "", 9, (("1", ""),))
        self.told(lost, "", "1", None, None)
        self.told(lost, "11111", "", 27, (("1", ""), ("1", ""), ("111", "")))

    def test_sixty_signs(self):
        hand = Hand("some", "0123456789", (("swap", 3, (("xy", "yx"),)), ("lost", 5, (("x", ""),)),
                                           ("more", 4, (("0", "00"),))))
        paper = "0123456789" * 6
        self.same(least_price(hand, paper, "1032547698" * 6), 90)
        self.same(hand(copying_of(hand, paper, "1032547698" * 6)), (paper, "1032547698" * 6, 90))
        self.same(least_price(hand, paper, ""), 300)
        self.same(least_price(hand, paper, paper), 0)
        self.same(copying_of(hand, paper, paper), tuple((sign, sign) for sign in paper))
        self.same(least_price(hand, "0" * 30, "0" * 60), 120)
        self.same(least_price(hand, "0" * 29, "0" * 60), None)
        self.same(copying_of(hand, "0" * 59, "0" * 60), (("0", "0"),) * 58 + (("0", "00"),))
        wide = Hand("wide", "01", (("three", 1, (("xyz", "zyx"),)),))
        self.same(least_price(wide, "001" * 20, "100" * 20), 20)

    def test_bad_papers(self):
        long = "0" * 61
        for call in (least_price, copying_of):
            self.raises(BadPaper, {"paper": long}, call, SWAP, long, "3")
            self.raises(BadPaper, {"paper": "3"}, call, SWAP, "3", long)
            self.raises(BadPaper, {"paper": long}, call, SWAP, "0", long)
            for thing in ODD_THINGS:
                if thing not in ("", "01"):
                    self.raises(BadPaper, {"paper": thing}, call, SWAP, thing, None)
                    self.raises(BadPaper, {"paper": thing}, call, SWAP, "01", thing)

    def test_against_a_slow_look(self):
        dice = random.Random(71)
        for _ in range(150):
            hand = some_hand(dice, "01")
            paper = "".join(dice.choice("01") for _ in range(dice.randrange(6)))
            copies = copies_upto(hand, paper, 50)
            copyings = copyings_upto(hand, paper, 50)
            for copy, price in dice.sample(sorted(copies.items()), min(6, len(copies))):
                cheapest = [copying for copying, paid in copyings if paid == price
                            and "".join(behind for _, behind in copying) == copy]
                self.told(hand, paper, copy, price, min(cheapest))
            for _ in range(4):
                copy = "".join(dice.choice("01") for _ in range(dice.randrange(7)))
                self.same(least_price(hand, paper, copy), copies.get(copy))
