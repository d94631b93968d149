"""Desks put into ways and left out of them, and the cheapest ones that make a way trusted ([30])."""

from handcarried.errors import BadGap, BadPoint, TooMany, Unlike
from handcarried.kinds import is_tuple_of, is_within
from handcarried.series import Series
from handcarried.sights import is_desk
from handcarried.trust import Trust, lie_price
from handcarried.ways import MOST_STATIONS, Way

MOST_GAPS = 4
MOST_GAP_PRICE = 99


class Desks:
    """The best lot of gaps, whose desks make a trusted way, and the least lie with each lot ahead of it or with all."""

    def __init__(self, way, gaps, *, most=1):
        require_gaps(way, gaps)
        self.lot = None
        self.price = None
        self.way = None
        shut = []
        for price, _, lot in ordered_lots(gaps):
            built = built_way(way, gaps, lot)
            lie = Trust(built, most=most).lie
            if lie is None:
                self.lot = lot
                self.price = price
                self.way = built
                break
            shut.append((lot, lie))
        self.shut = tuple(shut)

    def __bool__(self):
        return self.lot is not None


def with_desks(way, gaps, lot):
    """The way with the desks of a lot of gaps put in."""
    require_gaps(way, gaps)
    return built_way(way, gaps, lot)


def without_desk(way, station):
    """The way with one desk left out."""
    if not is_desk(way, station):
        raise BadPoint(station)
    # What the desk wrote is what came to it.
    papers = [paper if paper <= station else paper - 1 for paper in range(len(way) + 1)]
    left = [compared_with(told, papers) for number, told in enumerate(way.stations) if number != station]
    return Way(way.name, way.series, left)


def needless_desks(way, *, most=1):
    """The lot of the desks without each of which the lie price of a way is the same."""
    desks = [number for number in range(len(way)) if is_desk(way, number)]
    if not desks:
        return ()
    price = lie_price(way, most=most)
    return tuple([number for number in desks if lie_price(without_desk(way, number), most=most) == price])


def is_gap(way, thing):
    """Whether a thing is a gap of a way."""
    if not is_tuple_of(thing, 3, 3) or not is_within(thing[0], 0, len(way)):
        return False
    return isinstance(thing[1], Series) and is_within(thing[2], 1, MOST_GAP_PRICE)


def require_gaps(way, gaps):
    """Raise BadGap, or Unlike("signs")."""
    if not is_tuple_of(gaps, 0, MOST_GAPS):
        raise BadGap(-1)
    for number, gap in enumerate(gaps):
        if not is_gap(way, gap):
            raise BadGap(number)
    if any([series.signs != way.signs for _, series, _ in gaps]):
        raise Unlike("signs")


def ordered_lots(gaps):
    """All lots of gaps with their prices, as tuples (price, how many, lot) in order."""
    lots = [()]
    for number in range(len(gaps)):
        lots = [*lots, *[(*lot, number) for lot in lots]]
    prices = [price for _, _, price in gaps]
    return sorted([(sum([prices[gap] for gap in lot]), len(lot), lot) for lot in lots])


def built_way(way, gaps, lot):
    """The way with the desks of a lot of gaps; TooMany("station")."""
    if len(way) + len(lot) > MOST_STATIONS:
        raise TooMany("station")
    chosen = [gaps[gap] for gap in sorted(lot)]
    stations = []
    papers = [0]
    for number in range(len(way) + 1):
        stations.extend([("desk", series) for place, series, _ in chosen if place == number])
        if number < len(way):
            stations.append(compared_with(way.stations[number], papers))
            # A desk right behind this station writes another paper, with which nothing is compared.
            papers.append(len(stations))
    return Way(way.name, way.series, stations)


def compared_with(station, papers):
    """A station whose echo compares with the papers that have these numbers now."""
    return (*station[:2], papers[station[2]]) if station[0] == "echo" else station
