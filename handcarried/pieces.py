"""The pieces of a hand, and what they make ([9])."""

from handcarried.errors import Unfit
from handcarried.walks import standing_behind


def require_like_lengths(hand):
    """Raise Unfit unless the two papers of each pair of a hand have equally many signs."""
    if any([len(before) != len(behind) for before, behind, _ in hand.pairs]):
        raise Unfit("length")


def pieces_of(hand):
    """All pieces of a hand as tuples (before, behind, price): the signs that stay, then the pairs."""
    return [*[(sign, sign, 0) for sign in hand.signs], *hand.pairs]


def pieces_by_before(pieces):
    """For each before the pieces that have it."""
    found = {}
    for piece in pieces:
        found.setdefault(piece[0], []).append(piece)
    return found


def pieces_ahead(pieces, paper):
    """The pieces, told by their befores, with which a copying of a paper can begin."""
    parts = [paper[:many] for many in range(1, min(3, len(paper)) + 1)]
    return [piece for part in parts for piece in pieces.get(part, [])]


def prices_of_ends(pieces, paper, copy):
    """The least price of each end of a paper and end of a copy that have one, by how many signs both ends have."""
    prices = {(0, 0): 0}
    for many in range(1, len(paper) + 1):
        here = pieces_ahead(pieces, paper[len(paper) - many:])
        for more in range(len(copy) + 1):
            place = len(copy) - more
            found = [price + prices[many - len(before), more - len(behind)] for before, behind, price in here
                     if copy.startswith(behind, place) and (many - len(before), more - len(behind)) in prices]
            if found:
                prices[many, more] = min(found)
    return prices


def column_of(walk, paper):
    """For each standing of a walk the standing behind a paper."""
    return [standing_behind(walk, paper, at) for at in range(len(walk))]


def affordable(rows, most):
    """For each price left, from 0 to most: those of some rows that begin with a price which is not above it."""
    return [[row for row in rows if row[0] <= left] for left in range(most + 1)]
