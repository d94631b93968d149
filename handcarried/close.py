"""Numbers that are issued close together, and copies that are such numbers ([35])."""

from handcarried.kinds import is_tuple, is_tuple_of, is_within
from handcarried.nets import Texts
from handcarried.papers import require_like_signs
from handcarried.pieces import affordable, pieces_of, require_like_lengths
from handcarried.tables import grown_table, is_price, judge_table, net_of


class ClosePoint:
    """What the table of close numbers has as entries, and the steps between them."""

    def __init__(self, series, hand, most, far):
        require_like_signs((series, hand))
        require_like_lengths(hand)
        self.walk = series.walk
        self.most = most
        self.far = far
        self.lively = {at: True for at in self.walk.live}
        self.beginning = (0, 0, 0, 0, ())
        signs = series.signs
        self.pieces = affordable([
            (price, (before, behind), [(signs.index(one), signs.index(other)) for one, other in zip(before, behind)])
            for before, behind, price in pieces_of(hand)], most)
        self.known = {}

    def entry_of(self, thing):
        """The entry that a thing is, None if it has not the form."""
        if not is_tuple_of(thing, 5, 5) or not all([is_within(at, 0, len(self.walk) - 1) for at in thing[:2]]):
            return None
        at, to, spent, side, between = thing
        if not is_price(spent) or not is_within(side, -1, 1) or not self.is_between(between):
            return None
        if side == 0 and (at != to or len(between) > 0):
            return None
        return at, to, spent, side, tuple([tuple(pair) for pair in between])

    def is_between(self, thing):
        """Whether a thing tells how many papers lie between, by the standings that they lead to."""
        if not is_tuple(thing) or not all([is_tuple_of(pair, 2, 2) for pair in thing]):
            return False
        if not all([is_within(at, 0, len(self.walk) - 1) and at in self.lively and is_within(many, 1, self.far)
                    for at, many in thing]):
            return False
        return all([thing[k][0] < thing[k + 1][0] for k in range(len(thing) - 1)])

    def left_out(self, entry):
        """Whether an entry leads to no number and copy up to the price."""
        return entry[0] not in self.lively or entry[1] not in self.lively or entry[2] > self.most

    def bad(self, entry):
        """Whether an entry tells two numbers that are close together."""
        return self.distance(entry) is not None

    def distance(self, entry):
        """How many places the number and its copy are apart; None if they are none, or further apart than told."""
        at, to, _, side, between = entry
        if at not in self.walk.goals or to not in self.walk.goals or side == 0:
            return None
        ahead = sum([many for standing, many in between if standing in self.walk.goals])
        return ahead + 1 if ahead < self.far else None

    def moves(self, entry):
        """The steps of an entry, one for each piece that its price allows, which they tell."""
        at, to, spent, side, between = entry
        out = []
        for price, told, values in self.pieces[self.most - spent]:
            here = (at, to, side, between)
            for one, other in values:
                here = self.behind_signs(here, one, other)
            out.append((told, (here[0], here[1], spent + price, here[2], here[3])))
        return out

    def steps(self, entry):
        """The entries behind an entry."""
        return [behind for _, behind in self.moves(entry)]

    def behind_signs(self, here, one, other):
        """What follows the standings, the side and what lies between, when both papers go on by a sign."""
        key = (here, one, other)
        if key not in self.known:
            at, to, side, _ = here
            now = side if side != 0 else side_of(one, other)
            between = self.papers_between(here, one, other)
            self.known[key] = (self.walk.rows[at][one], self.walk.rows[to][other], now, between)
        return self.known[key]

    def papers_between(self, here, one, other):
        """What lies between the number and the copy when both go on by a sign."""
        at, to, side, between = here
        kinds = len(self.walk.signs)
        if side == 0:
            added = [(at, 1, range_between(one, other))]
        elif side == 1:
            added = [(at, 1, list(range(one + 1, kinds))), (to, 1, list(range(other)))]
        else:
            added = [(to, 1, list(range(other + 1, kinds))), (at, 1, list(range(one)))]
        counts = {}
        for standing, many, values in [*[(standing, many, list(range(kinds))) for standing, many in between], *added]:
            for value in values:
                behind = self.walk.rows[standing][value]
                if behind in self.lively:
                    counts[behind] = counts.get(behind, 0) + many
        return tuple([(standing, min(counts[standing], self.far)) for standing in sorted(counts)])


def side_of(one, other):
    """On which side of a paper another one is when these values are where they first differ; 0 if they do not."""
    if one == other:
        return 0
    return 1 if other > one else -1


def range_between(one, other):
    """The values between two values."""
    return list(range(min(one, other) + 1, max(one, other)))


class Close:
    """Whether a series keeps numbers apart that are issued close together; if not, the least two for each distance."""

    def __init__(self, series, hand, *, most=1, far=1):
        point = ClosePoint(series, hand, most, far)
        ways = grown_table(point)
        self.table = tuple(sorted(ways))
        distances = {entry: point.distance(entry) for entry in ways}
        self.least = tuple([least_two(point, ways, [entry for entry in ways if distances[entry] == distance])
                            for distance in range(1, far + 1)])

    def __bool__(self):
        return all([pair is None for pair in self.least])


def judge_close(series, hand, most, far, table):
    """What is wrong with a table of close numbers: -1, the number of an entry, or None."""
    return judge_table(ClosePoint(series, hand, most, far), table)


def least_two(point, ways, ends):
    """The least number and then the least copy that some entries of a table tell; None without such."""
    if not ends:
        return None
    number, net = Texts(net_of(point, ways), ends, 0).least_from(point.beginning)
    copy, _ = Texts(net, ends, 1).least_from(point.beginning)
    return number, copy
