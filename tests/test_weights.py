"""Promise [22]: weightings that find a hand, bars, and how they are judged."""

import random
from itertools import product

from handcarried.errors import TooMany, Unfit
from handcarried.finding import Finding
from handcarried.hands import Hand
from handcarried.weights import Weights, judge_bars
from helpers import ODD_THINGS, Case, free_series
from test_squares import NONE

TURN = Hand("turn", "012", (("a", 1, (("x", "y"),)),))
SWAP = Hand("swap", "012", (("a", 1, (("xy", "yx"),)),))
BOTH = Hand("pair", "012", (("a", 1, (("x", "y"), ("xy", "yx"))),))
LOST = Hand("lost", "012", (("a", 1, (("x", "y"),)), ("b", 1, (("x", ""),))))


def value_of(signs, weights, place, paper):
    return sum(weights[(place + at) % len(weights)] * signs.index(sign) for at, sign in enumerate(paper))


def is_barred(hand, modulus, weights, place, before, behind):
    return (value_of(hand.signs, weights, place, before) - value_of(hand.signs, weights, place, behind)) % modulus == 0


def slow_bar(hand, modulus, weights):
    for place in range(len(weights)):
        for before, behind, _ in hand.pairs:
            if is_barred(hand, modulus, weights, place, before, behind):
                return (place, before, behind)
    return None


def slow_weights(hand, modulus, length):
    bars = []
    for weights in product(range(modulus), repeat=length):
        bar = slow_bar(hand, modulus, weights)
        if bar is None:
            return weights, tuple(bars)
        bars.append(bar)
    return None, tuple(bars)


class TestWeights(Case):
    def test_the_first_weighting_and_the_bars_ahead(self):
        told = Weights(TURN, 3, 1)
        self.same((bool(told), told.weights, told.bars), (True, (1,), ((0, "0", "1"),)))
        told = Weights(TURN, 3, 2)
        self.same((told.weights, told.bars), ((1, 1), ((0, "0", "1"),) * 3 + ((1, "0", "1"),)))
        told = Weights(SWAP, 3, 2)
        self.same((told.weights, told.bars), ((0, 1), ((0, "01", "10"),)))
        told = Weights(BOTH, 5, 2)
        self.same(told.weights, (1, 2))
        self.assertEqual(len(told.bars), 7)
        self.same(told.bars[-1], (0, "01", "10"))
        self.assertTrue(Finding(free_series("x", "012", ("sum", 5, (1, 2), 4)), BOTH))

    def test_none_with_the_bars_of_all(self):
        told = Weights(TURN, 2, 2)
        self.same((bool(told), told.weights), (False, None))
        self.same(told.bars, ((0, "0", "1"), (0, "0", "1"), (0, "0", "2"), (0, "0", "2")))
        self.assertIsNone(judge_bars(TURN, 2, 2, told.bars))
        # Neighbours of one weight alone change nothing.
        told = Weights(SWAP, 30, 1)
        self.assertIsNone(told.weights)
        self.same(told.bars, ((0, "01", "10"),) * 30)

    def test_hands_without_pairs(self):
        told = Weights(NONE, 2, 6)
        self.same((bool(told), told.weights, told.bars), (True, (0,) * 6, ()))
        self.assertEqual(judge_bars(NONE, 2, 1, ()), -1)
        # Without pairs no bar is true.
        self.assertEqual(judge_bars(NONE, 2, 1, ((0, "0", "1"), (0, "0", "1"))), 0)

    def test_the_least_barred_place_and_the_first_pair(self):
        hand = Hand("some", "0123", (("a", 1, (("3", "1"), ("2", "0"), ("13", "20"))),))
        self.same(hand.pairs, (("2", "0", 1), ("3", "1", 1), ("13", "20", 1)))
        # By the weights 1, 2 only the last pair is barred at 0: 1 + 6 and 2 leave the same rest by 5.
        told = Weights(hand, 5, 2)
        self.same(slow_bar(hand, 5, (1, 2)), (0, "13", "20"))
        self.same(told.bars[5], (1, "2", "0"))
        self.same(told.bars[0], (0, "2", "0"))

    def test_the_weighting_repeats(self):
        hand = Hand("some", "01", (("a", 1, (("100", "001"),)),))
        self.same(Weights(hand, 2, 2).weights, None)
        self.same(Weights(hand, 2, 3).bars, slow_weights(hand, 2, 3)[1])
        self.same(Weights(hand, 2, 1).bars, ((0, "100", "001"),) * 2)

    def test_the_order_of_the_errors(self):
        for call in (lambda: Weights(LOST, 30, 6), lambda: judge_bars(LOST, 30, 6, None), lambda: Weights(LOST, 2, 1)):
            self.raises(Unfit, {"what": "length"}, call)
        for modulus, length in ((30, 6), (30, 3), (15, 3), (8, 4), (5, 5), (4, 6), (30, 4)):
            self.assertGreater(modulus ** length, 3000)
            self.raises(TooMany, {"what": "weighting"}, Weights, TURN, modulus, length)
            self.raises(TooMany, {"what": "weighting"}, judge_bars, TURN, modulus, length, None)
            self.raises(TooMany, {"what": "weighting"}, Weights, NONE, modulus, length)

    def test_just_below(self):
        # No power is 3,000 or 3,001; 3,125 is too many, and 2,744 is not.
        for modulus, length in ((14, 3), (7, 4), (4, 5), (3, 6), (30, 2)):
            self.assertLessEqual(modulus ** length, 3000)
            Weights(TURN, modulus, length)
        told = Weights(Hand("some", "01", (("a", 1, (("0xy", "1yx"), ("x", "y"))),)), 14, 3)
        self.same((told.weights, told.bars), slow_weights(Hand("some", "01", (("a", 1, (("0xy", "1yx"), ("x", "y"))),)),
                                                          14, 3))
        bars = Weights(Hand("some", "01", (("a", 1, (("0", "1"), ("011", "100"), ("01", "10"))),)), 2, 6).bars
        self.assertEqual(len(bars), 64)

    def test_against_a_slow_look(self):
        dice = random.Random(227)
        seen = []
        for _ in range(200):
            signs = dice.choice(["01", "012", "0123"])
            patterns = []
            for _ in range(dice.randrange(1, 4)):
                many = dice.randrange(1, 4)
                patterns.append(tuple("".join(dice.choice(signs + "xyz"[:2]) for _ in range(many)) for _ in range(2)))
            hand = Hand("some", signs, (("a", dice.randrange(1, 9), tuple(patterns)),))
            modulus, length = dice.randrange(2, 7), dice.randrange(1, 4)
            told = Weights(hand, modulus, length)
            self.same((told.weights, told.bars), slow_weights(hand, modulus, length))
            self.assertIs(bool(told), told.weights is not None)
            if told:
                series = free_series("x", signs, ("sum", modulus, told.weights, dice.randrange(modulus)))
                self.assertTrue(Finding(series, hand, most=hand.pairs[0][2] if hand.pairs else 1))
            else:
                self.assertIsNone(judge_bars(hand, modulus, length, told.bars))
            seen.append(bool(told))
        self.assertEqual(set(seen), {True, False})


class TestJudged(Case):
    def setUp(self):
        self.bars = Weights(TURN, 2, 2).bars

    def judged(self, bars):
        return judge_bars(TURN, 2, 2, bars)

    def test_right_bars(self):
        self.assertIsNone(self.judged(self.bars))
        self.assertIsNone(self.judged([list(bar) for bar in self.bars]))
        # Any true bar will do.
        self.assertIsNone(self.judged(((1, "2", "1"), (0, "1", "2"), (1, "0", "1"), (1, "2", "0"))))
        self.assertIsNone(self.judged(((1, "2", "1"), (1, "0", "2"), (0, "2", "0"), (0, "2", "0"))))

    def test_no_bars(self):
        for bars in (*ODD_THINGS, self.bars[:3], (*self.bars, self.bars[0]), {0: self.bars[0]}, "0000"):
            self.assertEqual(self.judged(bars), -1)
        self.assertEqual(self.judged((None,) * 5), -1)
        self.assertEqual(self.judged((None,) * 4), 0)

    def test_wrong_bars(self):
        wrong = [*ODD_THINGS, (0, "0"), (0, "0", "2", 0), (2, "0", "2"), (-1, "0", "2"), (True, "0", "2"),
                 (False, "0", "2"), (None, "0", "2"), ("0", "0", "2"), (0, 0, 2), (0, "0", "0"), (0, "00", "22"),
                 (0, "0", "3"), (0, "", ""), (0, None, "2"), (0, "0", None), (0, ("0",), "2"), (0, ["0"], "2"), (0, "0", ["2"]), (0, "0", {}),
                 (0, "0", "1"), (0, "2", "1"), (0, "0", "2 "), ((0, "0", "2"),), "002", (10 ** 39, "0", "2")]
        for bar in wrong:
            # By the weights (1, 1) only signs whose values are two apart are barred.
            self.assertEqual(self.judged((*self.bars[:3], bar)), 3, bar)
            self.assertEqual(self.judged((bar, *self.bars[1:])), 0 if bar not in ((0, "0", "1"), (0, "2", "1")) else None)
        self.assertEqual(self.judged((self.bars[0], (1, "0", "1"), self.bars[2], None)), 1)

    def test_against_a_slow_look(self):
        dice = random.Random(229)
        told = []
        for _ in range(300):
            modulus, length = dice.choice([(2, 1), (3, 1), (2, 2)])
            hand = dice.choice([TURN, SWAP, BOTH])
            bars = [(dice.randrange(length), *dice.choice(hand.pairs)[:2]) for _ in range(modulus ** length)]
            wrong = [number for number, weights in enumerate(product(range(modulus), repeat=length))
                     if not is_barred(hand, modulus, weights, *bars[number])]
            told.append(judge_bars(hand, modulus, length, bars))
            self.assertEqual(told[-1], min(wrong, default=None))
        self.assertIn(None, told)
        self.assertIn(1, told)
