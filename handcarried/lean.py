"""Hands that are never dearer, lean pairs and lean hands ([15])."""

from handcarried.hands import Hand
from handcarried.papers import require_like_signs
from handcarried.pieces import pieces_by_before, pieces_of, prices_of_ends

SLIP_NAMES = "abcdefghi"


def dearer_pair(first, second):
    """The first pair of the second hand for which the first hand is dearer; None if it is never dearer."""
    require_like_signs((first, second))
    return first_dearer(pieces_of(first), second.pairs)


def lean_pairs(hand):
    """The pairs of a hand that are not needless, in order."""
    pieces = pieces_of(hand)
    # Without the pair itself the pieces are those of the other copyings: no piece makes its before with others.
    return tuple([pair for pair in hand.pairs
                  if first_dearer([piece for piece in pieces if piece != pair], (pair,)) is not None])


def lean_hand(hand):
    """The hand with just the lean pairs of a hand, one slip for each price."""
    pairs = lean_pairs(hand)
    prices = sorted({price for _, _, price in pairs})
    return Hand(hand.name, hand.signs, [(SLIP_NAMES[price - 1], price, patterns_of(pairs, price)) for price in prices])


def alike_hands(first, second):
    """Whether two hands have the same least prices for all papers."""
    require_like_signs((first, second))
    return lean_pairs(first) == lean_pairs(second)


def patterns_of(pairs, price):
    """The patterns of the slip that makes the pairs with a price."""
    return [(before, behind) for before, behind, cost in pairs if cost == price]


def first_dearer(pieces, pairs):
    """The first of some pairs that pieces do not make for its price or less; None if they make all."""
    told = pieces_by_before(pieces)
    for before, behind, price in pairs:
        least = prices_of_ends(told, before, behind).get((len(before), len(behind)))
        if least is None or least > price:
            return before, behind, price
    return None
