"""Sights, and the stations that are suspects of them ([28])."""

from handcarried.courses import Course
from handcarried.errors import BadSight, TooMany
from handcarried.kinds import is_tuple_of, is_within
from handcarried.papers import is_paper
from handcarried.walks import standing_behind

MOST_SUSPECTS = 5000


def suspects(way, sight, *, most=1):
    """The pairs of the least price and the lot of the stations that slip, by price and then by lot."""
    require_sight(way, sight)
    point = sight[1] if sight[0] == "stopped" else len(way)
    return ordered_suspects(way, point, sight[-1], most, MOST_SUSPECTS)


def surely(way, sight, *, most=1):
    """The lot of the stations that surely slipped."""
    lots = [lot for _, lot in suspects(way, sight, most=most)]
    return tuple([k for k in range(len(way)) if lots and all([k in lot for lot in lots])])


def perhaps(way, sight, *, most=1):
    """The lot of the stations that perhaps slipped, but not surely."""
    lots = [lot for _, lot in suspects(way, sight, most=most)]
    blamed = [k for k in range(len(way)) if any([k in lot for lot in lots])]
    return tuple([k for k in blamed if not all([k in lot for lot in lots])])


def require_sight(way, sight):
    """Raise BadSight unless this is a sight of a way."""
    if not is_tuple_of(sight, 2, 3) or not is_paper(way.signs, sight[-1]):
        raise BadSight(sight)
    if len(sight) == 2 and sight[0] == "arrived":
        return
    if len(sight) == 2 or sight[0] != "stopped" or not is_desk(way, sight[1]):
        raise BadSight(sight)


def is_desk(way, thing):
    """Whether a thing is the number of a desk of a way."""
    return is_within(thing, 0, len(way) - 1) and way.stations[thing][0] == "desk"


def ordered_suspects(way, point, paper, most, bound):
    """The suspects of a paper at a point; TooMany("suspect") if there is a bound, and more is gone through."""
    search = SightSearch(way, point, paper, most)
    prices = search.prices_of_lots(bound)
    if point < len(way):
        walk = way.stations[point][1].walk
        if standing_behind(walk, paper, 0) in walk.goals:
            return ()
    return tuple(sorted([(price, lot) for lot, price in prices.items()]))


class Matching:
    """Watches a paper that should become a told one; what it sees is how many signs have been written."""

    def __init__(self, number, paper):
        self.papers = (number,)
        self.paper = paper

    def sees(self, seen, number, sign):
        """One sign more, if it is the right one."""
        return seen + 1 if self.paper.startswith(sign, seen) else None


class SightSearch:
    """The stories in which a paper comes to a point, gone through sign by sign.

    A node is a tuple (at, states, spent, slipped, written): at as in tables of ways, the states of the stations
    ahead of the point, the price, the lot of the stations that have slipped, and how many signs have been written.
    """

    def __init__(self, way, point, paper, most):
        self.signs = way.signs
        self.walk = way.series.walk
        self.lively = {at: True for at in self.walk.live}
        self.whole = len(paper)
        self.most = most
        self.course = Course(way.signs, way.stations[:point], Matching(point, paper), blaming=True)

    def prices_of_lots(self, bound):
        """For each lot of stations that slip in some story with this end the least price; TooMany("suspect")."""
        beginning = (0, self.course.beginning, 0, (), 0)
        found = [beginning] if 0 in self.lively and not self.course.any_left_out(beginning[1]) else []
        seen = {node: True for node in found}
        prices = {}
        done = 0
        while done < len(found):
            node = found[done]
            done += 1
            for price, lot in self.ends(node):
                prices[lot] = min(price, prices.get(lot, price))
            for behind in self.steps(node):
                if behind not in seen:
                    seen[behind] = True
                    found.append(behind)
            if bound is not None and len(found) > bound:
                raise TooMany("suspect")
        return prices

    def steps(self, node):
        """The nodes behind a node."""
        at, states, spent, slipped, written = node
        return [(to, behind, spent + price, united(slipped, lot), seen)
                for sign, to in zip(self.signs, self.walk.rows[at]) if to in self.lively
                for price, lot, behind, seen in self.course.goings(states, sign, self.most - spent, written)]

    def ends(self, node):
        """The prices and lots of the stories that end here with the paper."""
        at, states, spent, slipped, written = node
        if at not in self.walk.goals:
            return []
        return [(spent + price, united(slipped, lot))
                for price, lot, _, seen in self.course.endings(states, self.most - spent, written)
                if seen == self.whole]


def united(lot, more):
    """The lot of what is in one of two lots."""
    return tuple(sorted(set([*lot, *more])))
