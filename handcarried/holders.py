"""What papers can mean among the issued numbers of a book, and issued numbers that clash ([37])."""

from handcarried.papers import require_like_signs, require_paper
from handcarried.pieces import pieces_ahead, pieces_by_before, pieces_of


def issued_meant(book, series, paper, hand, *, most=1):
    """The pairs of the least price and the number in force that a paper can mean, by price and then in order."""
    issued = book.issued(series)
    own = book.edition(series, 0)
    require_paper(own.signs, paper)
    require_like_signs((own, hand))
    pieces = pieces_by_before(pieces_of(hand))
    shelf = Shelf([paper])
    found = []
    for number, _, _, _, force in issued:
        if force == 1:
            found.extend([(price, len(number), number) for price, _ in shelf.copies(pieces, number, most)])
    return tuple([(price, number) for price, _, number in sorted(found)])


def clashes(book, hand, *, most=1):
    """The tuples (series, number, series, copy) of two numbers in force of which the second is a copy of the first."""
    signs = [series.signs for series in book.serieses]
    rows = [(book.serieses[row.series].name, row.paper) for row in book.ledgers[-1].all_issued
            if row.force == 1 and signs[row.series] == hand.signs]
    pieces = pieces_by_before(pieces_of(hand))
    shelf = Shelf([paper for _, paper in rows])
    out = []
    for number, (name, paper) in enumerate(rows):
        others = sorted([other for _, other in shelf.copies(pieces, paper, most)])
        out.extend([(name, paper, *rows[other]) for other in others if other != number])
    return tuple(out)


class Shelf:
    """Some papers, arranged by their beginnings, each of which has a number; that of the empty one is 0."""

    def __init__(self, papers):
        self.behind = [{}]
        self.numbered = {}
        for number, paper in enumerate(papers):
            at = 0
            for sign in paper:
                if sign not in self.behind[at]:
                    self.behind[at][sign] = len(self.behind)
                    self.behind.append({})
                at = self.behind[at][sign]
            self.numbered.setdefault(at, []).append(number)

    def led(self, at, text):
        """The beginning that goes on from one by a text; None if no paper begins so."""
        for sign in text:
            at = self.behind[at].get(sign) if at is not None else None
        return at

    def copies(self, pieces, paper, most):
        """The pairs of the least price, up to a price, and the number of each of the papers that is a copy of one."""
        begun = [{} for _ in range(len(paper) + 1)]
        begun[0][0] = 0
        for place in range(len(paper)):
            here = list(begun[place].items())
            for before, behind, price in pieces_ahead(pieces, paper[place:]):
                further = begun[place + len(before)]
                for at, spent in here:
                    to = self.led(at, behind)
                    if to is not None and spent + price <= further.get(to, most):
                        further[to] = spent + price
        return [(price, number) for at, price in begun[-1].items() for number in self.numbered.get(at, [])]
