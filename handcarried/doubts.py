"""Ways that are in doubt at a point, and their tables ([29])."""

from handcarried.courses import Course
from handcarried.errors import BadPoint, Unfit
from handcarried.kinds import is_ascending, is_tuple, is_tuple_of, is_whole, is_within
from handcarried.nets import Texts
from handcarried.papers import is_lag, lag_on
from handcarried.sights import is_desk, ordered_suspects, united
from handcarried.stations import DeskStation
from handcarried.tables import grown_table, is_price, judge_table, net_of
from handcarried.ways import copying_stations


class LeadingLag:
    """Watches what comes to the point; what it sees is its lag with what came in another story, and the desk there."""

    def __init__(self, number, desk):
        self.papers = (number,)
        self.desk = desk

    def sees(self, seen, number, sign):
        """The lag goes on, if the two have not parted, and so does the desk."""
        over, at = seen
        further = lag_on(over, sign, "")
        if further == "#":
            return None
        return further, at if self.desk is None else self.desk.clean_going(at, [sign])[0]


class DoubtPoint:
    """What the table of a point of a way has as entries, and the steps between them."""

    def __init__(self, way, point, most):
        require_point(way, point)
        self.signs = way.signs
        self.walk = way.series.walk
        self.lively = {at: True for at in self.walk.live}
        self.most = most
        self.desk = DeskStation(way.stations[point][1]) if point < len(way) else None
        self.course = Course(way.signs, way.stations[:point], LeadingLag(point, self.desk), blaming=True)
        self.slipping = copying_stations(way.stations[:point])
        states = self.course.beginning
        trail = (0, states if self.desk is None else (*states, self.desk.beginning), 0, ())
        self.beginning = (trail, trail, "=")

    def trail_of(self, thing):
        """The trail that a thing is, None if it has not the form."""
        many = len(self.course.stations)
        whole = many if self.desk is None else many + 1
        if not is_tuple_of(thing, 4, 4) or not is_within(thing[0], 0, len(self.walk) - 1):
            return None
        if not is_tuple_of(thing[1], whole, whole) or not is_price(thing[2]) or not self.is_lot(thing[3]):
            return None
        states = self.course.states_of(thing[1][:many], False)
        if states is None or (self.desk is not None and self.desk.state_of(thing[1][many]) is None):
            return None
        return thing[0], (*states, *thing[1][many:]), thing[2], tuple(thing[3])

    def is_lot(self, thing):
        """Whether a thing is a lot of stations that can slip."""
        if not is_tuple(thing) or not all([is_whole(number) and number in self.slipping for number in thing]):
            return False
        return is_ascending(thing)

    def entry_of(self, thing):
        """The entry that a thing is, None if it has not the form."""
        if not is_tuple_of(thing, 3, 3) or not is_lag(self.signs, thing[2]):
            return None
        one = self.trail_of(thing[0])
        other = self.trail_of(thing[1])
        return None if one is None or other is None else (one, other, thing[2])

    def left_out(self, entry):
        """Whether an entry leads to no paper that comes to the point in two stories."""
        return entry[2] == "#" or any([self.trail_left_out(trail) for trail in entry[:2]])

    def trail_left_out(self, trail):
        """Whether a trail leads to no paper that comes to the point."""
        return trail[0] not in self.lively or trail[2] > self.most or self.course.any_left_out(trail[1])

    def bad(self, entry):
        """Whether both numbers can end here, with two lots."""
        one, other, over = entry
        return one[3] != other[3] and over == "=" and all([self.can_end(trail) for trail in (one, other)])

    def can_end(self, trail):
        """Whether the number of a trail can end here, so that its paper comes to the point and is seen there."""
        endings = self.course.endings(self.states_ahead(trail), self.most - trail[2], ("=", 0))
        if trail[0] not in self.walk.goals or not endings:
            return False
        return self.desk is None or self.desk.ended(trail[1][-1]) is None

    def states_ahead(self, trail):
        """The states of the stations ahead of the point."""
        return trail[1][:len(self.course.stations)]

    def trails_behind(self, trail, over):
        """What follows each sign of the number of a trail: tuples (trail, lag), for its lag with the other one."""
        at, now, spent, slipped = trail
        standing = 0 if self.desk is None else now[-1]
        out = []
        for sign, to in zip(self.signs, self.walk.rows[at]):
            if to in self.lively:
                stands = self.course.goings(self.states_ahead(trail), sign, self.most - spent, (over, standing))
                for price, lot, states, (further, seen) in stands:
                    behind = states if self.desk is None else (*states, seen)
                    out.append(((to, behind, spent + price, united(slipped, lot)), further))
        return out

    def moves(self, entry):
        """The steps of an entry, which tell what comes to the point in the first story."""
        one, other, over = entry
        out = []
        if over == "=" or over.startswith("-"):
            out.extend([((text_between(over, further),), (behind, other, further))
                        for behind, further in self.trails_behind(one, over)])
        if over == "=" or over.startswith("+"):
            out.extend([(("",), (one, behind, turned(further)))
                        for behind, further in self.trails_behind(other, turned(over))])
        return out

    def steps(self, entry):
        """The entries behind an entry."""
        return [behind for _, behind in self.moves(entry)]


def turned(lag):
    """The lag of the same two papers the other way round."""
    if lag.startswith("+"):
        return "-" + lag[1:]
    return "+" + lag[1:] if lag.startswith("-") else lag


def text_between(over, further):
    """The text by which the first of two papers has gone on from a lag, in which it was not ahead, to another one."""
    if further.startswith("-"):
        return over[1:len(over) - len(further) + 1]
    return over[1:] + further[1:]


class Doubts:
    """Whether a way is never in doubt at a point; if it is, the least doubtful paper with two lots of suspects."""

    def __init__(self, way, point, *, most=1):
        told = DoubtPoint(way, point, most)
        ways = grown_table(told)
        self.table = tuple(sorted(ways))
        self.least = None
        bad = [entry for entry in ways if told.bad(entry)]
        if bad:
            paper, _ = Texts(net_of(told, ways), bad, 0).least_from(told.beginning)
            lots = [lot for _, lot in ordered_suspects(way, point, paper, most, None)]
            self.least = (paper, lots[0], lots[1])

    def __bool__(self):
        return self.least is None


def judge_doubts(way, point, most, table):
    """What is wrong with a table of a point of a way: -1, the number of an entry, or None."""
    return judge_table(DoubtPoint(way, point, most), table)


def require_point(way, point):
    """Raise BadPoint, or Unfit("station") if a station ahead of the point writes something else than it reads."""
    if point != len(way) or not is_whole(point):
        if not is_desk(way, point):
            raise BadPoint(point)
    if any([station[0] in ("clerk", "spell") for station in way.stations[:point]]):
        raise Unfit("station")
