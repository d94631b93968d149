"""Promise [20]: squares, and the pairs that they find."""

import itertools
import random

from handcarried.errors import BadSigns
from handcarried.finding import Finding
from handcarried.hands import Hand
from handcarried.squares import hiding_slip, is_square
from helpers import ODD_THINGS, Case, free_series
from test_hands import some_pattern

NONE = Hand("none", "01", ())
SMALL = Hand("small", "01", (("a", 1, (("x", "y"), ("xy", "yx"))),))


def all_squares(many):
    """All squares of an order over two signs."""
    turns = list(itertools.permutations(range(many)))
    return [tuple(zip(one, other)) for one in turns for other in turns]


class TestSquares(Case):
    def test_squares(self):
        for rows in (((0, 0),), ((0, 1), (1, 0)), ((0, 1), (2, 0), (1, 2)), ((1, 2), (2, 0), (0, 1)), ((0, 0), (1, 1))):
            self.assertIs(is_square("01", rows), True)
            self.assertIs(is_square("01", [list(row) for row in rows]), True)
        self.assertIs(is_square("012", tuple((k, (k + 1) % 200, 199 - k) for k in range(200))), True)
        self.assertIs(is_square("0123456789AB", ((0,) * 12,)), True)

    def test_a_standing_twice_in_a_column(self):
        for rows in (((0, 0), (1, 0)), ((0, 0), (0, 1)), ((0, 1), (0, 1)), ((0, 1), (2, 0), (1, 0)), ((1, 2), (2, 1), (0, 1))):
            self.assertIs(is_square("01", rows), False)

    def test_things_of_other_forms(self):
        for rows in (*ODD_THINGS, ((0,),), ((0, 0, 0),), ((0, 1),), ((0, -1),), ((-1, -1),), ((0, True), (True, 0)),
                     ((False, False),), ((0, None),), ("00",), ((0, "0"),), ((0, 0.0),), ((0, 0), ()), ((0, 1), (1, 0), ()),
                     ((0, 1), (1, 0), 5), (((0, 0),),), {0: (0, 0)}, {(0, 0)}, "00", (0, 0), ((0, 2), (2, 0)),
                     ((0, 1), (1, 2)), ((0, 0), None)):
            self.assertIs(is_square("01", rows), False, rows)
        deep = 0
        for _ in range(60):
            deep = [deep, deep]
        self.assertIs(is_square("01", deep), False)
        self.assertIs(is_square("01", [[0, 1], [1, deep]]), False)

    def test_all_of_small_orders(self):
        for many in (1, 2):
            cells = list(itertools.product(range(many), repeat=2))
            for rows in itertools.product(cells, repeat=many):
                wanted = all(sorted(column) == list(range(many)) for column in zip(*rows))
                self.assertIs(is_square("01", rows), wanted)

    def test_bad_signs(self):
        for signs in ("10", "0", "", None, "0x"):
            self.raises(BadSigns, {"signs": signs}, is_square, signs, ((0, 0),))
            self.raises(BadSigns, {"signs": signs}, is_square, signs, None)


class TestHidingSlip(Case):
    def test_a_square_that_finds_the_hand(self):
        # The first square of order 3 of the document.
        self.assertIsNone(hiding_slip(SMALL, ((0, 1), (2, 0), (1, 2))))
        self.assertIsNone(hiding_slip(SMALL, [[0, 1], [2, 0], [1, 2]]))
        finding = [rows for rows in all_squares(3) if hiding_slip(SMALL, rows) is None]
        self.same(min(finding), ((0, 1), (2, 0), (1, 2)))
        self.assertEqual([rows for many in (1, 2) for rows in all_squares(many) if hiding_slip(SMALL, rows) is None], [])
        # What is found with one slip, for all papers.
        for rows in finding:
            self.assertIs(bool(Finding(free_series("x", "01", ("square", rows, (2,))), SMALL)), True)

    def test_the_least_standing_and_its_first_pair(self):
        # From 0 the two signs lead apart, but not the neighbours; from 1 the signs themselves meet.
        self.same(hiding_slip(SMALL, ((0, 1), (1, 0))), (0, "01", "10"))
        self.same(hiding_slip(SMALL, ((0, 0), (1, 2), (2, 1))), (0, "0", "1"))
        self.same(hiding_slip(SMALL, ((1, 2), (2, 1), (0, 0))), (2, "0", "1"))
        hand = Hand("some", "01", (("a", 1, (("1", "00"), ("1", "01"), ("1", "10"), ("0", "11"), ("0", "011"))),))
        self.same(hiding_slip(hand, ((0, 1), (1, 2), (2, 0))), (0, "1", "01"))
        self.same(hiding_slip(hand, ((1, 2), (2, 0), (0, 1))), (0, "0", "11"))

    def test_squares_of_one_row(self):
        for hand in (SMALL, Hand("some", "01", (("a", 1, (("01", ""), ("001", "1"))),))):
            self.same(hiding_slip(hand, ((0, 0),)), (0, *hand.pairs[0][:2]))
        self.assertIsNone(hiding_slip(NONE, ((0, 0),)))
        self.assertIsNone(hiding_slip(NONE, ((0, 1), (1, 0))))

    def test_behinds_that_are_empty(self):
        hand = Hand("some", "01", (("lost", 1, (("x", ""),)),))
        self.same(hiding_slip(hand, ((1, 1), (0, 2), (2, 0))), (2, "0", ""))
        self.assertIsNone(hiding_slip(hand, ((1, 2), (2, 0), (0, 1))))

    def test_against_a_slow_look(self):
        dice = random.Random(149)
        squares = [rows for many in (1, 2, 3, 4) for rows in all_squares(many)]
        told = []
        for _ in range(200):
            hand = Hand("some", "01", (("a", 1, tuple(some_pattern(dice, "01") for _ in range(2))),))
            rows = dice.choice(squares)
            found = []
            for standing in range(len(rows)):
                for before, behind, _ in hand.pairs:
                    ends = []
                    for paper in (before, behind):
                        at = standing
                        for sign in paper:
                            at = rows[at][int(sign)]
                        ends.append(at)
                    if ends[0] == ends[1]:
                        found.append((standing, before, behind))
            told.append(hiding_slip(hand, rows))
            self.same(told[-1], found[0] if found else None)
        self.assertIn(None, told)
