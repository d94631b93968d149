"""Promises [20] and [21]: trees of cases, how they are judged, first squares, least orders."""

import random
from itertools import product

from handcarried.cases import Cases, judge_cases, least_order
from handcarried.errors import TooMany
from handcarried.finding import Finding
from handcarried.hands import Hand
from handcarried.squares import hiding_slip, is_square
from helpers import ODD_THINGS, Case, free_series
from test_hands import some_pattern
from test_squares import NONE, SMALL, all_squares

ONE = ("case", 0, "0", (("case", 0, "1", (("slip", 0, "0", "1"),)),))
TWO = ("case", 0, "0", (
    ("case", 0, "1", (
        ("slip", 0, "0", "1"),
        ("case", 1, "0", (("twice", 0, 1, "0"), ("slip", 0, "01", "10"))))),
    ("case", 0, "1", (
        ("case", 1, "0", (("case", 1, "1", (("twice", 0, 1, "1"), ("slip", 0, "01", "10"))), ("twice", 0, 1, "0"))),
        ("slip", 0, "0", "1")))))


def hand_of(signs, *patterns):
    return Hand("some", signs, (("a", 1, patterns),))


def trees_in(tree):
    """All trees in a tree with the ways to them, the whole one first."""
    out = [((), tree)]
    if tree[0] == "case":
        for number, inner in enumerate(tree[3]):
            out += [((number, *way), other) for way, other in trees_in(inner)]
    return out


def with_tree(tree, way, other):
    """The tree with another one at the end of a way."""
    if not way:
        return other
    inner = list(tree[3])
    inner[way[0]] = with_tree(inner[way[0]], way[1:], other)
    return (*tree[:3], tuple(inner))


def ends(signs, cells, at, paper):
    for sign in paper:
        at = cells.get((at, sign)) if at is not None else None
    return at


def slow_wrong(hand, order, tree, cells):
    """The way to the first wrong tree, by the words of the document."""
    def standing(thing):
        return thing.__class__ is int and 0 <= thing < order

    if tree.__class__ not in (tuple, list) or len(tree) != 4 or tree[0].__class__ is not str:
        return ()
    word, one, other, last = tree
    if word == "case":
        if not standing(one) or other.__class__ is not str or len(other) != 1 or other not in hand.signs:
            return ()
        if (one, other) in cells or last.__class__ not in (tuple, list) or len(last) != order:
            return ()
        for to, inner in enumerate(last):
            wrong = slow_wrong(hand, order, inner, {**cells, (one, other): to})
            if wrong is not None:
                return (to, *wrong)
        return None
    if word == "twice":
        good = (standing(one) and standing(other) and one != other and last.__class__ is str
                and (one, last) in cells and cells[one, last] == cells.get((other, last)))
        return None if good else ()
    if word == "slip" and standing(one) and other.__class__ is str and last.__class__ is str:
        if (other, last) in [pair[:2] for pair in hand.pairs]:
            end = ends(hand.signs, cells, one, other)
            return None if end is not None and end == ends(hand.signs, cells, one, last) else ()
    return ()


def slow_cases(hand, order):
    """The square, the tree and how many trees were gone through."""
    many = [0]
    cells = [(standing, sign) for standing in range(order) for sign in hand.signs]

    def tree_of(filled):
        if filled:
            (last, sign), to = list(filled.items())[-1]
            for first in range(order):
                if first != last and filled.get((first, sign)) == to:
                    many[0] += 1
                    return ("twice", first, last, sign)
        for standing in range(order):
            for before, behind, _ in hand.pairs:
                end = ends(hand.signs, filled, standing, before)
                if end is not None and end == ends(hand.signs, filled, standing, behind):
                    many[0] += 1
                    return ("slip", standing, before, behind)
        if len(filled) == len(cells):
            return filled
        many[0] += 1
        cell = cells[len(filled)]
        trees = []
        for to in range(order):
            tree = tree_of({**filled, cell: to})
            if tree.__class__ is dict:
                return tree
            trees.append(tree)
        return ("case", *cell, tuple(trees))

    told = tree_of({})
    if told.__class__ is dict:
        return tuple(tuple(told[at, sign] for sign in hand.signs) for at in range(order)), None, many[0]
    return None, told, many[0]


class TestCases(Case):
    def test_the_example(self):
        for order, tree, many in ((1, ONE, 3), (2, TWO, 13)):
            told = Cases(SMALL, order)
            self.assertIs(bool(told), False)
            self.assertIsNone(told.square)
            self.same(told.tree, tree)
            self.assertEqual(len(trees_in(tree)), many)
            self.assertIsNone(judge_cases(SMALL, order, told.tree))
        told = Cases(SMALL, 3)
        self.assertIs(bool(told), True)
        self.assertIsNone(told.tree)
        self.same(told.square, ((0, 1), (2, 0), (1, 2)))

    def test_hands_without_pairs(self):
        self.same(Cases(NONE, 1).square, ((0, 0),))
        self.same(Cases(NONE, 3).square, ((0, 0), (1, 1), (2, 2)))
        self.same(Cases(Hand("none", "0123456789AB", ()), 5).square, tuple((at,) * 12 for at in range(5)))
        self.same(least_order(NONE), (1, ((0, 0),), ()))
        # The two papers of this pattern are always equal, so it makes no pair.
        self.same(least_order(hand_of("01", ("0", "0"))), (1, ((0, 0),), ()))

    def test_twice_goes_ahead_of_slip(self):
        # Both cells of the sign 0 filled with 1: from 0 the papers 0 and 00 meet, too.
        hand = hand_of("01", ("0", "00"), ("1", "11"), ("01", "10"))
        tree = Cases(hand, 2).tree
        self.same(tree[3][0], ("slip", 0, "0", "00"))
        self.same(tree[3][1][3][1][3][1], ("twice", 0, 1, "0"))
        cells = {(0, "0"): 1, (0, "1"): 1, (1, "0"): 1}
        self.assertIsNone(slow_wrong(hand, 2, ("slip", 0, "0", "00"), cells))

    def test_the_least_standing_and_its_first_pair(self):
        # The sign 0 filled with 0 hides three pairs from 0: the first one in the order of pairs is told.
        hand = hand_of("01", ("000", "0"), ("00", "0"), ("0", ""), ("0", "00"))
        self.same(hand.pairs[0], ("0", "", 1))
        self.same(Cases(hand, 2).tree[3][0], ("slip", 0, "0", ""))
        # From 0 and from 1 the papers 0 and 000 meet, when 0 leads from each of both to the other one.
        hand = hand_of("01", ("0", "000"))
        self.same(Cases(hand, 2).tree[3][1][3][0][3][0], ("slip", 0, "0", "000"))

    def test_three_thousand_trees(self):
        whole = hand_of("012", ("y", "1z"), ("0", "z0x"))
        self.assertEqual(slow_cases(whole, 5)[2], 3000)
        told = Cases(whole, 5)
        self.same((told.square, told.tree), slow_cases(whole, 5)[:2])
        for patterns in ((("y", ""), ("xyz", "20y")), (("x2x", "xy0"), ("1y", "z12"), ("z", ""))):
            hand = hand_of("012", *patterns)
            self.assertEqual(slow_cases(hand, 4)[2], 3001)
            self.raises(TooMany, {"what": "tree"}, Cases, hand, 4)
            self.raises(TooMany, {"what": "tree"}, least_order, hand, most=5)
            self.assertIs(bool(Cases(hand, 3)), False)

    def test_many_cells(self):
        signs = "0123456789AB"
        told = Cases(hand_of(signs, ("x", "y")), 5)
        # Twelve signs cannot lead apart to five standings.
        self.assertIs(bool(told), False)
        self.assertIsNone(judge_cases(hand_of(signs, ("x", "y")), 5, told.tree))
        told = Cases(hand_of(signs, ("x", "")), 2)
        self.same(told.square, ((1,) * 12, (0,) * 12))

    def test_against_slow_looks(self):
        dice = random.Random(211)
        seen = []
        for _ in range(150):
            hand = hand_of("01", *(some_pattern(dice, "01") for _ in range(dice.randrange(1, 4))))
            for order in (1, 2, 3):
                square, tree, many = slow_cases(hand, order)
                if many > 3000:
                    self.raises(TooMany, {"what": "tree"}, Cases, hand, order)
                    continue
                told = Cases(hand, order)
                self.same((told.square, told.tree), (square, tree))
                self.assertIs(bool(told), square is not None)
                finding = [rows for rows in all_squares(order) if hiding_slip(hand, rows) is None]
                self.same(told.square, min(finding, default=None))
                if told.tree is not None:
                    self.assertIsNone(judge_cases(hand, order, told.tree))
                seen.append(told.square is None)
        self.assertEqual(set(seen), {True, False})

    def test_what_a_square_is_for(self):
        for hand in (SMALL, hand_of("012", ("xy", "yx")), hand_of("01", ("x", ""), ("01", "10"))):
            order, square, trees = least_order(hand, most=5)
            self.assertTrue(is_square(hand.signs, square))
            self.assertIsNone(hiding_slip(hand, square))
            self.assertEqual(len(trees), order - 1)
            series = free_series("x", hand.signs, ("square", square, (0,)))
            self.assertTrue(Finding(series, hand))


class TestLeastOrder(Case):
    def test_the_example(self):
        self.same(least_order(SMALL), (3, ((0, 1), (2, 0), (1, 2)), (ONE, TWO)))
        self.same(least_order(SMALL, most=3), least_order(SMALL))
        self.same(least_order(SMALL, most=5), least_order(SMALL))

    def test_up_to_three_if_nothing_else_is_told(self):
        # Four signs lead apart to four standings at least.
        hand = hand_of("0123", ("x", "y"))
        order, square, trees = least_order(hand)
        self.same((order, square, len(trees)), (None, None, 3))
        self.same(least_order(hand, most=4), (4, ((0, 1, 2, 3), (1, 0, 3, 2), (2, 3, 0, 1), (3, 2, 1, 0)), trees))

    def test_without_a_square(self):
        self.same(least_order(SMALL, most=2), (None, None, (ONE, TWO)))
        self.same(least_order(SMALL, most=1), (None, None, (ONE,)))


class TestJudged(Case):
    def judged(self, tree, order=2):
        wrong = judge_cases(SMALL, order, tree)
        self.same(wrong, slow_wrong(SMALL, order, tree, {}))
        return wrong

    def test_things_that_are_no_trees(self):
        deep = ()
        for _ in range(190):
            deep = (deep,)
        for thing in (*ODD_THINGS, deep, "case", ("case",), ("case", 0, "0"), ("other", 0, "0", ()), (0, 0, "0", ()),
                      ("case", 0, "0", ONE, ONE), (None, 0, 1, "0"), ("twice", 0, 1, "0"), ("slip", 0, "0", "1"),
                      (["case"], 0, "0", ()), ("other", 0, "0", "1"), ("twice", 0, "0", "1")):
            self.same(self.judged(thing), ())
            # The same within a tree.
            self.same(self.judged(with_tree(TWO, (0, 1, 1), thing) if thing != ("slip", 0, "01", "10") else ()),
                      (0, 1, 1))

    def test_cases_without_their_form(self):
        for standing in (2, -1, True, False, None, "0", (0,), 10 ** 39):
            self.same(self.judged(("case", standing, "0", TWO[3])), ())
        for sign in ("2", "", "01", 0, None, True, ("0",)):
            self.same(self.judged(("case", 0, sign, TWO[3])), ())
        for trees in ((), TWO[3][:1], (*TWO[3], TWO[3][0]), None, "01", {0: TWO, 1: TWO}, 2):
            self.same(self.judged(("case", 0, "0", trees)), ())
            self.same(self.judged(with_tree(TWO, (1, 0), ("case", 1, "0", trees))), (1, 0))

    def test_a_filled_cell_again(self):
        self.same(self.judged(with_tree(TWO, (0,), ("case", 0, "0", TWO[3]))), (0,))
        self.same(self.judged(with_tree(TWO, (0, 1), ("case", 0, "1", TWO[3]))), (0, 1))

    def test_what_is_not_true(self):
        self.same(self.judged(with_tree(TWO, (0, 1, 0), ("twice", 0, 0, "0"))), (0, 1, 0))
        self.same(self.judged(with_tree(TWO, (0, 1, 0), ("twice", 0, 1, "1"))), (0, 1, 0))
        self.same(self.judged(with_tree(TWO, (0, 1, 1), ("twice", 0, 1, "0"))), (0, 1, 1))
        for first, second, sign in ((0, 2, "0"), (-1, 0, "0"), (False, True, "0"), (0, True, "0"), ("0", "1", "0"),
                                    (0, 1, 0), (0, 1, "00"), (0, 1, ""), (0, 1, "2"), (None, None, None)):
            self.same(self.judged(with_tree(TWO, (0, 1, 0), ("twice", first, second, sign))), (0, 1, 0))
        # The standings may come in any order.
        self.assertIsNone(self.judged(with_tree(TWO, (0, 1, 0), ("twice", 1, 0, "0"))))

    def test_slips_that_are_not_true(self):
        # The cell (1, "1") is not filled here.
        self.same(self.judged(with_tree(TWO, (0, 1, 0), ("slip", 1, "01", "10"))), (0, 1, 0))
        for standing, before, behind in ((0, "0", "0"), (0, "1", "1"), (0, "00", "11"), (0, "10", "0"), (2, "0", "1"),
                                         (True, "0", "1"), (0, 0, 1), (0, None, None), (0, ("0",), ("1",)),
                                         (0, "0", "1 "), (0, "0", ""), (-1, "0", "1"), (None, "0", "1"), (0, ["0"], "1"), (0, "0", ["1"]), (0, {}, "1")):
            self.same(self.judged(with_tree(TWO, (0, 0), ("slip", standing, before, behind))), (0, 0))
        self.assertIsNone(self.judged(with_tree(TWO, (0, 0), ("slip", 0, "1", "0"))))
        self.assertIsNone(self.judged(with_tree(TWO, (0, 0), ["slip", 0, "1", "0"])))

    def test_other_true_trees(self):
        def other(cells, filled):
            """A tree that fills the cells in another order, and is shut as soon as it can be."""
            for first, second in product(range(2), repeat=2):
                for sign in "01":
                    if first != second and (first, sign) in filled and filled[first, sign] == filled.get((second, sign)):
                        return ["twice", first, second, sign]
            for standing in (1, 0):
                for before, behind, _ in SMALL.pairs[::-1]:
                    if slow_wrong(SMALL, 2, ("slip", standing, before, behind), filled) is None:
                        return ["slip", standing, before, behind]
            return ["case", *cells[0], [other(cells[1:], {**filled, cells[0]: to}) for to in range(2)]]

        for order in ((1, "1"), (0, "0"), (1, "0"), (0, "1")), ((0, "1"), (1, "1"), (0, "0"), (1, "0")):
            tree = other(list(order), {})
            self.assertIsNone(self.judged(tree))
            self.assertNotEqual(tree, TWO)

    def test_the_first_of_several_wrong_trees(self):
        tree = with_tree(with_tree(TWO, (1, 1), None), (1, 0, 1), True)
        self.same(self.judged(tree), (1, 0, 1))
        self.same(self.judged(with_tree(tree, (0, 1, 1), "slip")), (0, 1, 1))
        # A tree goes ahead of those within it.
        self.same(self.judged(with_tree(tree, (1,), ("case", 0, "0", (None, None)))), (1,))

    def test_each_tree_replaced(self):
        dice = random.Random(223)
        parts = [inner for _, inner in trees_in(TWO)]
        for way, _ in trees_in(TWO):
            for other in (*parts, None, True, (), [], "twice", 5):
                self.judged(with_tree(TWO, way, other))
        for _ in range(200):
            tree = TWO
            for _ in range(3):
                way, _ = dice.choice(trees_in(TWO))
                try:
                    tree = with_tree(tree, way, dice.choice(parts))
                except (IndexError, TypeError):
                    continue
            self.judged(tree)

    def test_other_orders(self):
        self.same(judge_cases(SMALL, 1, TWO), ())
        self.same(judge_cases(SMALL, 3, TWO), ())
        self.assertIsNone(judge_cases(SMALL, 1, ONE))
        # From no tree an order is shut that has a square.
        self.same(judge_cases(SMALL, 3, ("case", 0, "0", (TWO, TWO, TWO))), (0,))
