"""What a paper can mean, and whether each paper means at most one number ([19])."""

from handcarried.errors import TooMany
from handcarried.kinds import is_tuple_of, is_within
from handcarried.meanings import BEGINNING, Meaning, first_two
from handcarried.nets import Texts, priced_net, sizes_to
from handcarried.papers import is_lag, lag_on, require_like_signs, require_paper
from handcarried.pieces import affordable, column_of, pieces_of
from handcarried.tables import grown_table, is_price, judge_table, net_of

MOST_NUMBERS = 200


def meant(series, hand, paper, *, most=1):
    """The pairs of the least price and the number that a paper can mean, by price and then in order."""
    require_like_signs((series, hand))
    require_paper(series.signs, paper)
    meaning = Meaning(series, hand, paper)
    net = priced_net(meaning, BEGINNING, most)
    left = sizes_to(net, [node for node in net if meaning.is_end(node)], 0)
    found = []
    begun = {"": {("", BEGINNING): 0}} if BEGINNING in left else {}
    while begun:
        # Where a number ends it has one way at most, as it leads to just one standing.
        found.extend([(price, len(number), number) for number, ways in begun.items()
                      for (rest, node), price in ways.items() if rest == "" and meaning.is_end(node)])
        begun = {number + sign: ways for number, others in begun.items()
                 for sign, ways in ways_behind(net, left, others, most).items()}
        # What has been begun, with equally many signs, goes on to as many different numbers.
        if len(found) + len(begun) > MOST_NUMBERS:
            raise TooMany("number")
    return tuple([(price, number) for price, _, number in sorted(found)])


def ways_behind(net, left, ways, most):
    """For each sign by which a number goes on its ways behind this sign.

    A way is a pair of what is still to come of the before of a piece and the node behind this piece. It is told with
    its least price, if an end can be reached for at most the price.
    """
    out = {}
    for (rest, node), spent in ways.items():
        further = [((0, rest), node)] if rest != "" else net[node]
        for (price, before), to in further:
            if to in left and spent + price + left[to] <= most:
                behind = out.setdefault(before[0], {})
                way = (before[1:], to)
                behind[way] = min(spent + price, behind.get(way, most))
    return out


class MendingPoint:
    """What the table of two copyings of one paper has as entries, and the steps between them."""

    def __init__(self, series, hand, most):
        require_like_signs((series, hand))
        self.walk = series.walk
        self.most = most
        self.lively = {at: True for at in series.walk.live}
        self.beginning = (0, 0, 0, 0, "=", "=")
        self.pieces = affordable([(price, before, behind, column_of(self.walk, before))
                                  for before, behind, price in pieces_of(hand)], most)

    def entry_of(self, thing):
        """The entry that a thing is, None if it has not the form."""
        if not is_tuple_of(thing, 6, 6) or not all([is_within(at, 0, len(self.walk) - 1) for at in thing[:2]]):
            return None
        if not all([is_price(price) for price in thing[2:4]]):
            return None
        return tuple(thing) if all([is_lag(self.walk.signs, lag) for lag in thing[4:]]) else None

    def left_out(self, entry):
        """Whether an entry leads to no paper that can mean two numbers up to the price."""
        one, other, spent, paid, over, _ = entry
        return (one not in self.lively or other not in self.lively or spent > self.most or paid > self.most
                or over == "#")

    def bad(self, entry):
        """Whether an entry tells a paper that can mean two numbers."""
        one, other, _, _, over, lag = entry
        return one in self.walk.goals and other in self.walk.goals and over == "=" and lag != "="

    def moves(self, entry):
        """The steps of an entry, which tell what the copying of the first number has written."""
        over = entry[4]
        out = []
        if over == "=" or over.startswith("-"):
            out.extend(self.first_moves(entry))
        if over == "=" or over.startswith("+"):
            out.extend(self.second_moves(entry))
        return out

    def first_moves(self, entry):
        """The steps by which the first number goes on, one for each piece that its price allows."""
        one, other, spent, paid, over, lag = entry
        return [((behind,), (column[one], other, spent + price, paid,
                             lag_on(over, behind, ""), lag_on(lag, before, "")))
                for price, before, behind, column in self.pieces[self.most - spent]]

    def second_moves(self, entry):
        """The steps by which the second number goes on, one for each piece that its price allows."""
        one, other, spent, paid, over, lag = entry
        return [(("",), (one, column[other], spent, paid + price,
                         lag_on(over, "", behind), lag_on(lag, "", before)))
                for price, before, behind, column in self.pieces[self.most - paid]]

    def steps(self, entry):
        """The entries behind an entry."""
        return [behind for _, behind in self.moves(entry)]


class Mending:
    """Whether each paper means at most one number; if not, the least paper that can mean two, with the first two."""

    def __init__(self, series, hand, *, most=1):
        point = MendingPoint(series, hand, most)
        ways = grown_table(point)
        self.table = tuple(sorted(ways))
        self.doubtful = None
        bad = [entry for entry in ways if point.bad(entry)]
        if bad:
            paper, _ = Texts(net_of(point, ways), bad, 0).least_from(point.beginning)
            self.doubtful = (paper, *first_two(series, hand, paper, most))

    def __bool__(self):
        return self.doubtful is None


def judge_mending(series, hand, most, table):
    """What is wrong with a table of two copyings of one paper: -1, the number of an entry, or None."""
    return judge_table(MendingPoint(series, hand, most), table)
