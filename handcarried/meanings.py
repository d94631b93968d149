"""The numbers of a series that a paper can mean, as a net of the copyings that make the paper ([19])."""

from handcarried.nets import Texts, priced_net, tight_net
from handcarried.pieces import column_of, pieces_of

BEGINNING = (0, 0)


class Meaning:
    """The copyings that make a paper: a node is a place in it and the standing behind the number so far."""

    def __init__(self, series, hand, paper):
        walk = series.walk
        self.many = len(paper)
        self.goals = walk.goals
        self.lively = {at: True for at in walk.live}
        pieces = [(before, behind, price, column_of(walk, before)) for before, behind, price in pieces_of(hand)]
        self.pieces = [[piece for piece in pieces if paper.startswith(piece[1], place)]
                       for place in range(len(paper) + 1)]

    def moves(self, node):
        """The steps of a node, one for each piece, that tell its price and its before."""
        place, at = node
        return [((price, before), (place + len(behind), column[at]))
                for before, behind, price, column in self.pieces[place] if column[at] in self.lively]

    def is_end(self, node):
        """Whether the paper is made and a number has ended."""
        return node[0] == self.many and node[1] in self.goals


class Otherwise:
    """The same for all numbers but one; a node has first how many signs of this one came, or -1 for another one."""

    def __init__(self, meaning, number):
        self.meaning = meaning
        self.number = number

    def moves(self, node):
        """The steps of a node, as those of all numbers."""
        return [(told, (self.compared(node[0], told[1]), *behind)) for told, behind in self.meaning.moves(node[1:])]

    def compared(self, same, before):
        """How the numbers compare behind a before."""
        return same + len(before) if same >= 0 and self.number.startswith(before, same) else -1

    def is_end(self, node):
        """Whether another number has ended."""
        return self.meaning.is_end(node[1:]) and node[0] != len(self.number)


def least_number(point, start, most):
    """Of the numbers with the least price the least one; there is one for at most this price."""
    net = priced_net(point, start, most)
    ends = [node for node in net if point.is_end(node)]
    return Texts(tight_net(net, ends, 0), ends, 1).least_from(start)[0]


def first_two(series, hand, paper, most):
    """The first two numbers that a paper can mean, by price and then in order; there are two."""
    meaning = Meaning(series, hand, paper)
    first = least_number(meaning, BEGINNING, most)
    return first, least_number(Otherwise(meaning, first), (0, *BEGINNING), most)
