"""Ways that are trusted, their tables and lies ([24] to [26]), and ways that are clean ([27])."""

from handcarried.courses import CleanCourse, Course
from handcarried.kinds import is_tuple_of, is_within
from handcarried.nets import Texts
from handcarried.papers import is_lag, lag_on, paper_key
from handcarried.tables import grown_table, is_price, judge_table, net_of
from handcarried.tellings import Telling


class ArrivalLag:
    """Watches what arrives; what it sees is the lag of that and of what arrives in the clean story."""

    def __init__(self, way):
        self.papers = (len(way),)

    def sees(self, seen, number, sign):
        """The lag goes on."""
        return lag_on(seen, sign, "")


class TrustPoint:
    """What the table of a way has as entries, and the steps between them."""

    def __init__(self, way, most):
        self.signs = way.signs
        self.walk = way.series.walk
        self.lively = {at: True for at in self.walk.live}
        self.most = most
        self.course = Course(way.signs, way.stations, ArrivalLag(way))
        self.beginning = (0, self.course.beginning, self.course.beginning, 0, "=")

    def entry_of(self, thing):
        """The entry that a thing is, None if it has not the form."""
        if not is_tuple_of(thing, 5, 5) or not is_within(thing[0], 0, len(self.walk) - 1):
            return None
        many = len(self.course.stations)
        if not is_tuple_of(thing[1], many, many) or not is_tuple_of(thing[2], many, many):
            return None
        now = self.course.states_of(thing[1], False)
        clean = self.course.states_of(thing[2], True)
        if now is None or clean is None or not is_price(thing[3]) or not is_lag(self.signs, thing[4]):
            return None
        return thing[0], now, clean, thing[3], thing[4]

    def left_out(self, entry):
        """Whether an entry leads to no story that arrives for at most the price."""
        return entry[0] not in self.lively or entry[3] > self.most or self.course.any_left_out(entry[1])

    def bad(self, entry):
        """Whether the number can end here with a lie."""
        return len(self.lie_prices(entry)) > 0

    def lie_prices(self, entry):
        """The prices of the endings with which the number ends in a lie, for at most the price."""
        at, now, clean, spent, lag = entry
        if at not in self.walk.goals:
            return []
        ahead = self.ended_lag(clean, lag)
        return [price for price, _, _, seen in self.course.endings(now, self.most - spent, ahead) if seen != "="]

    def ended_lag(self, clean, lag):
        """The lag when the clean story has ended; if it is stopped, whatever arrives differs from it."""
        stopped, written = self.course.clean_ending(clean)
        return lag_on(lag, "", written) if stopped is None else "#"

    def moves(self, entry):
        """The steps of an entry, which tell the sign by which the number goes on."""
        at, now, clean, spent, lag = entry
        out = []
        for sign, to in zip(self.signs, self.walk.rows[at]):
            if to in self.lively:
                clean_to, written = self.course.clean_going(clean, sign)
                stands = self.course.goings(now, sign, self.most - spent, lag_on(lag, "", written))
                out.extend([((sign,), (to, states, clean_to, spent + price, seen))
                            for price, _, states, seen in stands])
        return out

    def steps(self, entry):
        """The entries behind an entry."""
        return [behind for _, behind in self.moves(entry)]


class Trust:
    """Whether a way is trusted up to a price; if not, its least lie."""

    def __init__(self, way, *, most=1):
        point = TrustPoint(way, most)
        ways = grown_table(point)
        self.table = tuple(sorted(ways))
        self.lie = least_lie(point, ways)

    def __bool__(self):
        return self.lie is None

    def __iter__(self):
        return iter(self.table)


class CleanWay:
    """Whether the clean story of each number arrives; if not, the least number that is stopped, and where."""

    def __init__(self, way):
        self.stopped = None
        for k, station in enumerate(way.stations):
            if station[0] in ("desk", "clerk", "echo"):
                number = least_stopped_by(way, k, self.stopped)
                # Of several stations that stop the same number the first one does.
                if number is not None and (self.stopped is None or paper_key(number) < paper_key(self.stopped[0])):
                    self.stopped = (number, k)

    def __bool__(self):
        return self.stopped is None


def judge_trust(way, most, table):
    """What is wrong with a table of a way: -1, the number of an entry, or None."""
    return judge_table(TrustPoint(way, most), table)


def lie_price(way, *, most=1):
    """The price of the least lie of a way; None if it is trusted."""
    point = TrustPoint(way, most)
    return price_of_lies(prices_of_lies(point, grown_table(point)))


def prices_of_lies(point, ways):
    """For each bad entry of a table the least price of a lie with which the number ends there."""
    prices = {}
    for entry in ways:
        more = point.lie_prices(entry)
        if more:
            prices[entry] = entry[3] + min(more)
    return prices


def price_of_lies(prices):
    """The least price of a lie; None if there is none."""
    return min(list(prices.values()), default=None)


def least_lie(point, ways):
    """The price and the papers of the least lie that the entries of a table tell; None if there is none."""
    prices = prices_of_lies(point, ways)
    price = price_of_lies(prices)
    if price is None:
        return None
    ends = [entry for entry, cost in prices.items() if cost == price]
    number, _ = Texts(net_of(point, ways), ends, 0).least_from(point.beginning)
    return price, Telling(point.course, number, price).least_papers()


def least_stopped_by(way, k, stopped):
    """The least number that a station stops in the clean story; None if there is none.

    Numbers that a clerk ahead of it stops need not be told, nor those of more signs than one that is stopped already.
    """
    course = CleanCourse(way.signs, writing_stations(way.stations, k))
    last = len(course.stations) - 1
    walk = way.series.walk
    lively = {at: True for at in walk.live}
    papers = {(0, course.beginning): ""} if 0 in lively else {}
    found = list(papers)
    done = 0
    while done < len(found):
        at, states = found[done]
        paper = papers[found[done]]
        done += 1
        if at in walk.goals and course.clean_ending(states)[0] == last:
            return paper
        if stopped is None or len(paper) < len(stopped[0]):
            for sign, to in zip(way.signs, walk.rows[at]):
                behind = (to, course.clean_going(states, sign)[0])
                if to in lively and behind not in papers:
                    papers[behind] = paper + sign
                    found.append(behind)
    return None


def writing_stations(stations, k):
    """A station, and ahead of it those that write something else than they read in the clean story."""
    ahead = [station[0] in ("clerk", "spell") for station in stations[:k]]
    out = [station for station, writes in zip(stations, ahead) if writes]
    if stations[k][0] == "echo":
        _, hand, paper = stations[k]
        return [*out, ("echo", hand, len([writes for writes in ahead[:paper] if writes]))]
    return [*out, stations[k]]
