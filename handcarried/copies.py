"""The copies of a paper that a hand makes up to a price ([15])."""

from handcarried.errors import TooMany
from handcarried.papers import require_paper
from handcarried.pieces import pieces_ahead, pieces_by_before, pieces_of

MOST_COPIES = 500


def copies_of(hand, paper, *, most=1):
    """The pairs of the least price and the copy, by price and then by copy in order; TooMany("copy")."""
    require_paper(hand.signs, paper)
    pieces = pieces_by_before(pieces_of(hand))
    begun = [{} for _ in range(len(paper) + 1)]
    begun[0][""] = 0
    for at in range(len(paper) + 1):
        here = list(begun[at].items())
        # What has been begun here goes on by the signs that are left to as many different copies.
        if len(here) > MOST_COPIES:
            raise TooMany("copy")
        for before, behind, price in pieces_ahead(pieces, paper[at:]):
            further = begun[at + len(before)]
            for copy, spent in here:
                if spent + price <= further.get(copy + behind, most):
                    further[copy + behind] = spent + price
    told = sorted([(price, len(copy), copy) for copy, price in begun[-1].items()])
    return tuple([(price, copy) for price, _, copy in told])
