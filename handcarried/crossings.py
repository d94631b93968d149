"""Crossings: numbers of one series whose copies are numbers of another one ([16])."""

from handcarried.kinds import is_tuple_of, is_within
from handcarried.nets import Texts
from handcarried.papers import require_like_signs
from handcarried.pieces import affordable, column_of, pieces_of
from handcarried.tables import grown_table, is_price, judge_table, net_of


class CrossingPoint:
    """What the table of a crossing has as entries, and the steps between them."""

    def __init__(self, sender, hand, taker, most):
        require_like_signs((sender, hand, taker))
        self.sender = sender.walk
        self.taker = taker.walk
        self.most = most
        self.lively_ats = {at: True for at in sender.walk.live}
        self.lively_tos = {to: True for to in taker.walk.live}
        self.beginning = (0, 0, 0)
        self.pieces = affordable([
            (price, (before, behind), column_of(self.sender, before), column_of(self.taker, behind))
            for before, behind, price in pieces_of(hand)], most)

    def entry_of(self, thing):
        """The entry that a thing is, None if it has not the form."""
        if not is_tuple_of(thing, 3, 3) or not is_price(thing[2]):
            return None
        if not is_within(thing[0], 0, len(self.sender) - 1) or not is_within(thing[1], 0, len(self.taker) - 1):
            return None
        return tuple(thing)

    def left_out(self, entry):
        """Whether an entry leads to no crossing up to the price."""
        return entry[0] not in self.lively_ats or entry[1] not in self.lively_tos or entry[2] > self.most

    def bad(self, entry):
        """Whether an entry tells a crossing."""
        return entry[0] in self.sender.goals and entry[1] in self.taker.goals

    def moves(self, entry):
        """The steps of an entry, one for each piece that its price allows, which they tell."""
        at, to, spent = entry
        return [(told, (ats[at], tos[to], spent + price)) for price, told, ats, tos in self.pieces[self.most - spent]]

    def steps(self, entry):
        """The entries behind an entry."""
        return [behind for _, behind in self.moves(entry)]


class Crossing:
    """Whether two series are apart by a hand; if not, the least crossing."""

    def __init__(self, sender, hand, taker, *, most=1):
        point = CrossingPoint(sender, hand, taker, most)
        ways = grown_table(point)
        self.table = tuple(sorted(ways))
        self.least = least_bad(point, ways)

    def __bool__(self):
        return self.least is None


def judge_crossing(sender, hand, taker, most, table):
    """What is wrong with a table of a crossing: -1, the number of an entry, or None."""
    return judge_table(CrossingPoint(sender, hand, taker, most), table)


def least_bad(point, ways):
    """The price, the number and the copy that the bad entries of a table tell, the least ones; None without such."""
    bad = [entry for entry in ways if point.bad(entry)]
    if not bad:
        return None
    # No copying is cheaper than the cheapest entry, so this is the least price of what it tells.
    price = min([entry[2] for entry in bad])
    ends = [entry for entry in bad if entry[2] == price]
    number, net = Texts(net_of(point, ways), ends, 0).least_from(point.beginning)
    copy, _ = Texts(net, ends, 1).least_from(point.beginning)
    return price, number, copy
