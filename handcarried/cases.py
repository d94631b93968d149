"""Trees of cases: the first square of an order that finds a hand, or a tree that shows that there is none ([20], [21]).
"""

from handcarried.errors import TooMany
from handcarried.kinds import is_text, is_tuple_of, is_within

MOST_TREES = 3000


class Cases:
    """Whether some square of an order finds a hand: the first one, or the tree that shows that none does."""

    def __init__(self, hand, order):
        search = CaseSearch(hand, order)
        self.tree = search.tree_behind(0)
        self.square = None if self.tree is not None else tuple([tuple(row) for row in search.filling.rows])

    def __bool__(self):
        return self.square is not None


def least_order(hand, *, most=3):
    """The least order up to one that has a square, this square, and the trees of the orders ahead."""
    trees = []
    for order in range(1, most + 1):
        cases = Cases(hand, order)
        if cases.square is not None:
            return order, cases.square, tuple(trees)
        trees.append(cases.tree)
    return None, None, tuple(trees)


def judge_cases(hand, order, tree):
    """The way to the first wrong tree within a tree; None if the tree is right."""
    return wrong_tree(Filling(hand, order), tree)


class Filling:
    """The cells of a square, each with a standing or None, and what they say of the pairs of a hand."""

    def __init__(self, hand, order):
        self.order = order
        self.signs = hand.signs
        self.rows = [[None] * len(hand.signs) for _ in range(order)]
        self.pairs = {(before, behind): True for before, behind, _ in hand.pairs}

    def end_of(self, paper, standing):
        """The standing to which a paper leads through filled cells alone; None if it meets another one."""
        at = standing
        for sign in paper:
            if at is not None:
                at = self.rows[at][self.signs.index(sign)]
        return at

    def has_twice(self, first, second, value):
        """Whether two cells for a sign are filled with the same standing."""
        return self.rows[first][value] is not None and self.rows[first][value] == self.rows[second][value]

    def has_slip(self, standing, before, behind):
        """Whether two papers lead from a standing to the same one."""
        end = self.end_of(before, standing)
        return end is not None and end == self.end_of(behind, standing)


class CaseSearch:
    """The trees of an order, gone through one after the other, the cells being filled in their order."""

    def __init__(self, hand, order):
        self.filling = Filling(hand, order)
        self.cells = [(standing, value) for standing in range(order) for value in range(len(hand.signs))]
        self.gone_through = 0

    def tree_behind(self, filled):
        """The tree for the filling of so many cells; None as soon as a square is found, which stays as it is then."""
        shut = self.shut_by(filled)
        if shut is None and filled == len(self.cells):
            return None
        self.gone_through += 1
        if self.gone_through > MOST_TREES:
            raise TooMany("tree")
        return self.case_of(filled) if shut is None else shut

    def case_of(self, filled):
        """The case of the first cell that is not filled; None as soon as a square is found."""
        standing, value = self.cells[filled]
        row = self.filling.rows[standing]
        trees = []
        for to in range(self.filling.order):
            row[value] = to
            tree = self.tree_behind(filled + 1)
            if tree is None:
                return None
            trees.append(tree)
        row[value] = None
        return "case", standing, self.filling.signs[value], tuple(trees)

    def shut_by(self, filled):
        """What the filling allows: the "twice" with the cell that was filled last, or the first "slip"; or None."""
        if filled == 0:
            return None
        last, value = self.cells[filled - 1]
        for first in range(last):
            if self.filling.has_twice(first, last, value):
                return "twice", first, last, self.filling.signs[value]
        # From a standing whose row is empty no before leads anywhere.
        for standing in range(last + 1):
            for before, behind in self.filling.pairs:
                if self.filling.has_slip(standing, before, behind):
                    return "slip", standing, before, behind
        return None


def wrong_tree(filling, tree):
    """The way to the first tree that is wrong for a filling, within a tree; None if there is none."""
    if not is_tuple_of(tree, 4, 4) or not isinstance(tree[0], str):
        return ()
    if tree[0] == "case":
        return wrong_case(filling, tree)
    if tree[0] == "twice":
        return None if is_twice(filling, tree) else ()
    return None if tree[0] == "slip" and is_slip(filling, tree) else ()


def wrong_case(filling, tree):
    """The same for a case."""
    _, standing, sign, trees = tree
    if not is_within(standing, 0, filling.order - 1) or not is_text(sign, 1, 1, filling.signs):
        return ()
    row = filling.rows[standing]
    value = filling.signs.index(sign)
    if row[value] is not None or not is_tuple_of(trees, filling.order, filling.order):
        return ()
    for to, inner in enumerate(trees):
        row[value] = to
        wrong = wrong_tree(filling, inner)
        if wrong is not None:
            return (to, *wrong)
    row[value] = None
    return None


def is_twice(filling, tree):
    """Whether a "twice" is true for a filling."""
    _, first, second, sign = tree
    if not all([is_within(standing, 0, filling.order - 1) for standing in (first, second)]) or first == second:
        return False
    return is_text(sign, 1, 1, filling.signs) and filling.has_twice(first, second, filling.signs.index(sign))


def is_slip(filling, tree):
    """Whether a "slip" is true for a filling."""
    _, standing, before, behind = tree
    if not is_within(standing, 0, filling.order - 1) or not isinstance(before, str) or not isinstance(behind, str):
        return False
    return (before, behind) in filling.pairs and filling.has_slip(standing, before, behind)
