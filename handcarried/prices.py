"""Least prices, and the copyings that have them ([9])."""

from handcarried.papers import require_paper
from handcarried.pieces import pieces_by_before, pieces_of, prices_of_ends


def least_price(hand, paper, copy):
    """The least price of a paper and a copy of it; None if no copying makes the one out of the other."""
    require_paper(hand.signs, paper)
    require_paper(hand.signs, copy)
    prices = prices_of_ends(pieces_by_before(pieces_of(hand)), paper, copy)
    return prices.get((len(paper), len(copy)))


def copying_of(hand, paper, copy):
    """The first of the cheapest copyings that make a copy out of a paper; None if there is none."""
    require_paper(hand.signs, paper)
    require_paper(hand.signs, copy)
    pieces = sorted(pieces_of(hand))
    prices = prices_of_ends(pieces_by_before(pieces), paper, copy)
    if (len(paper), len(copy)) not in prices:
        return None
    copying = []
    while paper:
        before, behind = first_piece(pieces, prices, paper, copy)
        copying.append((before, behind))
        paper = paper[len(before):]
        copy = copy[len(behind):]
    return tuple(copying)


def first_piece(pieces, prices, paper, copy):
    """The first piece with which a cheapest copying of what is left of a paper begins."""
    for before, behind, price in pieces:
        ends = (len(paper) - len(before), len(copy) - len(behind))
        if paper.startswith(before) and copy.startswith(behind) and ends in prices:
            if price + prices[ends] == prices[len(paper), len(copy)]:
                return before, behind
    return None
