"""Whether a series finds a hand: numbers whose copies are other numbers of it ([17])."""

from handcarried.crossings import CrossingPoint, least_bad
from handcarried.kinds import is_tuple_of
from handcarried.papers import is_lag, lag_on
from handcarried.tables import grown_table, judge_table


class FindingPoint:
    """What the table of a series and a hand has as entries: those of a crossing into the series itself, and a lag."""

    def __init__(self, series, hand, most):
        self.crossing = CrossingPoint(series, hand, series, most)
        self.signs = series.signs
        self.beginning = (0, 0, 0, "=")

    def entry_of(self, thing):
        """The entry that a thing is, None if it has not the form."""
        if not is_tuple_of(thing, 4, 4) or not is_lag(self.signs, thing[3]):
            return None
        inner = self.crossing.entry_of(thing[:3])
        return None if inner is None else (*inner, thing[3])

    def left_out(self, entry):
        """Whether an entry leads to no number that is missed up to the price."""
        return self.crossing.left_out(entry[:3])

    def bad(self, entry):
        """Whether an entry tells a number that is missed."""
        return self.crossing.bad(entry[:3]) and entry[3] != "="

    def moves(self, entry):
        """The steps of an entry, one for each piece that its price allows, which they tell."""
        return [(told, (*behind, lag_on(entry[3], told[0], told[1])))
                for told, behind in self.crossing.moves(entry[:3])]

    def steps(self, entry):
        """The entries behind an entry."""
        return [behind for _, behind in self.moves(entry)]


class Finding:
    """Whether a series finds a hand; if not, the least missed number."""

    def __init__(self, series, hand, *, most=1):
        point = FindingPoint(series, hand, most)
        ways = grown_table(point)
        self.table = tuple(sorted(ways))
        self.missed = least_bad(point, ways)

    def __bool__(self):
        return self.missed is None

    def __iter__(self):
        return iter(self.table)


def judge_finding(series, hand, most, table):
    """What is wrong with a table of a series and a hand: -1, the number of an entry, or None."""
    return judge_table(FindingPoint(series, hand, most), table)
