"""Promise [15]: hands that are never dearer, lean pairs, lean hands and alike hands."""

import random

from brute import copyings_upto, papers_upto
from handcarried.errors import Unlike
from handcarried.hands import Hand
from handcarried.lean import alike_hands, dearer_pair, lean_hand, lean_pairs
from handcarried.prices import least_price
from helpers import Case, example_hand
from test_prices import some_hand

NONE = Hand("none", "01", ())


def made(signs, *rows, name="some"):
    """A hand with a slip for each row (price, patterns)."""
    return Hand(name, signs, tuple(("abcdefghijkl"[k], price, tuple(patterns))
                                   for k, (price, *patterns) in enumerate(rows)))


def slow_lean(hand):
    """The pairs for which only the one piece itself makes the behind for at most the price."""
    out = []
    for before, behind, price in hand.pairs:
        others = [copying for copying, _ in copyings_upto(hand, before, price)
                  if copying != ((before, behind),) and "".join(heard for _, heard in copying) == behind]
        if not others:
            out.append((before, behind, price))
    return tuple(out)


class TestDearer(Case):
    def test_never_dearer(self):
        first = made("01", (1, ("x", "y")), (2, ("x", "")))
        second = made("01", (2, ("x", "y")), (4, ("xx", "")), (3, ("01", "0")))
        self.assertIsNone(dearer_pair(first, second))
        self.same(dearer_pair(second, first), ("0", "", 2))

    def test_the_first_pair_in_order(self):
        first = made("012", (3, ("x", "y")))
        second = made("012", (6, ("01", "10")), (5, ("12", "21")), (3, ("0", "2")), (2, ("2", "1"), ("21", "12")))
        # By ("2", "1") and by ("12", "21") and ("21", "12") the first hand is dearer: signs go ahead.
        self.same(dearer_pair(first, second), ("2", "1", 2))
        second = made("012", (6, ("01", "10")), (5, ("12", "21")), (3, ("0", "2")), (2, ("21", "12"), ("21", "")))
        self.same(dearer_pair(first, second), ("12", "21", 5))
        second = made("012", (6, ("01", "10")), (2, ("21", "12"), ("21", "")))
        self.same(dearer_pair(first, second), ("21", "", 2))
        second = made("012", (6, ("01", "10")), (2, ("21", "12")))
        self.same(dearer_pair(first, second), ("21", "12", 2))

    def test_the_same_price_is_not_dearer(self):
        first = made("01", (3, ("0", "1")))
        self.assertIsNone(dearer_pair(first, made("01", (3, ("0", "1")))))
        self.assertIsNone(dearer_pair(first, made("01", (6, ("00", "11")))))
        self.same(dearer_pair(first, made("01", (5, ("00", "11")))), ("00", "11", 5))
        self.same(dearer_pair(first, made("01", (2, ("0", "1")))), ("0", "1", 2))

    def test_signs_that_stay(self):
        first = made("01", (3, ("0", "")))
        self.assertIsNone(dearer_pair(first, made("01", (3, ("010", "01"), ("010", "10"), ("101", "11")))))
        self.same(dearer_pair(first, made("01", (3, ("010", "1")))), ("010", "1", 3))

    def test_the_same_hand(self):
        for hand in (example_hand(), NONE, made("01", (9, ("xyz", "zyx")))):
            self.assertIsNone(dearer_pair(hand, hand))

    def test_hands_without_slips(self):
        some = made("01", (9, ("0", "1")))
        self.assertIsNone(dearer_pair(some, NONE))
        self.assertIsNone(dearer_pair(NONE, NONE))
        self.same(dearer_pair(NONE, some), ("0", "1", 9))
        self.assertIsNone(dearer_pair(NONE, made("01", (1, ("x", "x")))))

    def test_unlike_signs(self):
        self.raises(Unlike, {"what": "signs"}, dearer_pair, NONE, Hand("none", "012", ()))
        self.raises(Unlike, {"what": "signs"}, alike_hands, NONE, Hand("none", "012", ()))
        self.raises(Unlike, {"what": "signs"}, alike_hands, example_hand(), NONE)

    def test_against_all_papers(self):
        dice = random.Random(79)
        papers = papers_upto("01", 3)
        for _ in range(150):
            first, second = some_hand(dice, "01"), some_hand(dice, "01")
            dearer = []
            for before, behind, price in second.pairs:
                least = least_price(first, before, behind)
                if least is None or least > price:
                    dearer.append((before, behind, price))
            self.same(dearer_pair(first, second), dearer[0] if dearer else None)
            if not dearer:
                for paper in papers:
                    for copy in papers:
                        price = least_price(second, paper, copy)
                        if price is not None:
                            self.assertLessEqual(least_price(first, paper, copy), price)


class TestLean(Case):
    def lean(self, hand, *pairs):
        self.same(lean_pairs(hand), pairs)
        self.same(slow_lean(hand), pairs)

    def test_two_pieces_together(self):
        self.lean(made("01", (2, ("0", "1"), ("1", "0")), (4, ("01", "10"))), ("0", "1", 2), ("1", "0", 2))
        self.lean(made("01", (2, ("0", "1"), ("1", "0")), (3, ("01", "10"))),
                  ("0", "1", 2), ("1", "0", 2), ("01", "10", 3))

    def test_a_pair_and_signs_that_stay(self):
        self.lean(made("01", (2, ("01", "10")), (2, ("010", "100"))), ("01", "10", 2))
        self.lean(made("01", (2, ("01", "10")), (3, ("001", "010"))), ("01", "10", 2))
        self.lean(made("01", (3, ("01", "10")), (2, ("010", "100"))), ("01", "10", 3), ("010", "100", 2))

    def test_a_shorter_pair_with_signs_around_it(self):
        self.lean(made("01", (1, ("0", "")), (1, ("101", "11"))), ("0", "", 1))
        self.lean(made("01", (5, ("0", "11")), (9, ("101", "111"))), ("0", "11", 5), ("101", "111", 9))
        self.lean(made("01", (5, ("0", "1")), (9, ("101", "111"))), ("0", "1", 5))

    def test_equal_prices_and_lower_ones(self):
        # Left out one by one, both signs cost 6; only for less than this it is worth leaving them out together.
        for price, many in ((7, 1), (6, 1), (5, 2), (1, 2)):
            self.assertEqual(len(lean_pairs(made("01", (3, ("0", "")), (price, ("00", ""))))), many)

    def test_other_copyings_that_need_a_pair_that_is_needless(self):
        hand = made("01", (1, ("0", "1")), (2, ("00", "11")), (3, ("000", "111")))
        self.lean(hand, ("0", "1", 1))

    def test_nothing_is_needless(self):
        hand = example_hand()
        self.same(len(lean_pairs(hand)), len(slow_lean(hand)))
        self.lean(NONE)
        hand = made("012", (1, ("xy", "yx")))
        self.lean(hand, *hand.pairs)

    def test_against_a_slow_look(self):
        dice = random.Random(83)
        for _ in range(150):
            hand = some_hand(dice, "01")
            self.same(lean_pairs(hand), slow_lean(hand))

    def test_two_hundred_pairs(self):
        hand = Hand("some", "0123456789", (("a", 1, (("xy", "yx"), ("x", ""))), ("b", 2, (("xx", "yy"), ("x", "xx")))))
        self.assertEqual(len(hand.pairs), 200)
        self.same(lean_pairs(hand), hand.pairs)


class TestLeanHand(Case):
    def test_what_it_has(self):
        hand = Hand("phone", "012", (("swap", 3, (("xy", "yx"),)), ("lost", 1, (("x", ""), ("12", "2"))),
                                     ("late", 9, (("0", "22"), ("0", "01"))), ("more", 3, (("00", "1"), ("0", "2")))))
        lean = lean_hand(hand)
        self.same((lean.name, lean.signs), ("phone", "012"))
        self.same(lean.slips, (
            ("a", 1, (("0", ""), ("1", ""), ("2", ""))),
            ("c", 3, (("0", "2"), ("00", "1"), ("01", "10"), ("02", "20"), ("10", "01"), ("12", "21"), ("20", "02"),
                      ("21", "12"))),
            ("i", 9, (("0", "01"), ("0", "22")))))
        self.same(lean.pairs, lean_pairs(hand))
        self.same(lean_hand(lean).slips, lean.slips)

    def test_names_for_all_prices(self):
        hand = made("0123456789", *[(price, (str(price), "0")) for price in range(9, 0, -1)])
        self.same(lean_hand(hand).slips, tuple((name, price, ((str(price), "0"),))
                                               for price, name in enumerate("abcdefghi", 1)))

    def test_without_slips(self):
        self.same(lean_hand(NONE).slips, ())
        self.assertEqual(lean_hand(NONE), NONE)
        self.same(lean_hand(made("01", (1, ("x", "x")))).slips, ())

    def test_the_same_least_prices(self):
        dice = random.Random(89)
        papers = papers_upto("01", 4)
        for _ in range(60):
            hand = some_hand(dice, "01")
            lean = lean_hand(hand)
            self.assertTrue(alike_hands(hand, lean))
            self.assertEqual((dearer_pair(hand, lean), dearer_pair(lean, hand)), (None, None))
            for _ in range(40):
                paper, copy = dice.choice(papers), dice.choice(papers)
                self.assertEqual(least_price(hand, paper, copy), least_price(lean, paper, copy))


class TestAlikeHands(Case):
    def test_other_slips_and_the_same_prices(self):
        first = made("01", (2, ("x", "y")), name="first")
        second = Hand("second", "01", (("zz", 9, (("0", "1"),)), ("z", 2, (("0", "1"), ("1", "0"))),
                                       ("swap", 4, (("01", "10"), ("xy", "yx")))))
        self.assertIs(alike_hands(first, second), True)
        self.assertIs(alike_hands(second, first), True)
        self.assertIs(alike_hands(NONE, made("01", (1, ("xy", "xy")))), True)

    def test_unlike_ones(self):
        first = made("01", (2, ("x", "y")))
        for other in (made("01", (2, ("0", "1"))), made("01", (1, ("x", "y"))),
                      made("01", (2, ("x", "y")), (3, ("00", "11"))), NONE):
            self.assertIs(alike_hands(first, other), False)
            self.assertIs(alike_hands(other, first), False)

    def test_exactly_if_neither_is_dearer(self):
        dice = random.Random(97)
        seen = set()
        for _ in range(300):
            first = some_hand(dice, "01", 2)
            second = dice.choice([some_hand(dice, "01", 2), lean_hand(first),
                                  first + Hand("more", "01", (("more", 9, (("01", "10"), ("110", "011"))),))])
            alike = dearer_pair(first, second) is None and dearer_pair(second, first) is None
            self.assertIs(alike_hands(first, second), alike)
            seen.add(alike)
        self.assertEqual(seen, {True, False})
