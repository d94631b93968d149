"""Squares, and the pairs that they find ([20])."""

from handcarried.kinds import is_tuple
from handcarried.papers import require_signs
from handcarried.walks import are_rows, standing_in


def is_square(signs, rows):
    """Whether a thing is a square over these signs, of any order."""
    require_signs(signs)
    if not is_tuple(rows) or not are_rows(signs, rows, len(rows)):
        return False
    standings = list(range(len(rows)))
    return all([sorted([row[value] for row in rows]) == standings for value in range(len(signs))])


def hiding_slip(hand, rows):
    """The least standing, and the first pair of the hand whose two papers meet from there; None if there is none."""
    for standing in range(len(rows)):
        for before, behind, _ in hand.pairs:
            if standing_in(hand.signs, rows, before, standing) == standing_in(hand.signs, rows, behind, standing):
                return standing, before, behind
    return None
