"""Ways and their stations ([23])."""

from handcarried.errors import BadWay, TooMany, Unlike
from handcarried.hands import Hand
from handcarried.kinds import as_tuples, is_text, is_tuple_of, is_within
from handcarried.names import require_name
from handcarried.series import Series

MOST_STATIONS = 10
MOST_HANDS = 3
MOST_TEXT = 2


def is_station(signs, number, thing):
    """Whether a thing is a station with this number in a way over these signs."""
    if not is_tuple_of(thing, 2, 4):
        return False
    kind = thing[0]
    if kind == "hand":
        return len(thing) == 2 and isinstance(thing[1], Hand)
    if kind == "desk" or kind == "clerk":
        return len(thing) == 2 and isinstance(thing[1], Series)
    if kind == "echo":
        return len(thing) == 3 and isinstance(thing[1], Hand) and is_within(thing[2], 0, number)
    return kind == "spell" and len(thing) == 4 and is_speller(signs, thing[1], thing[2], thing[3])


def is_speller(signs, texts, ahead, behind):
    """Whether these are what a speller tells."""
    if not is_tuple_of(texts, len(signs), len(signs)):
        return False
    if not all([is_text(text, 1, MOST_TEXT, signs) for text in texts]):
        return False
    return is_text(ahead, 0, MOST_TEXT, signs) and is_text(behind, 0, MOST_TEXT, signs)


def own_things(stations):
    """The hands and series of some stations, in order; a speller has none."""
    return [station[1] for station in stations if station[0] != "spell"]


def copying_stations(stations):
    """The numbers of the stations that have a copying in a story."""
    return [number for number, station in enumerate(stations) if station[0] == "hand" or station[0] == "echo"]


def checked_stations(signs, stations):
    """The stations as tuples; BadWay, Unlike("signs"), TooMany("hand")."""
    if not is_tuple_of(stations, 0, MOST_STATIONS):
        raise BadWay(-1)
    for number, station in enumerate(stations):
        if not is_station(signs, number, station):
            raise BadWay(number)
    if any([thing.signs != signs for thing in own_things(stations)]):
        raise Unlike("signs")
    if len(copying_stations(stations)) > MOST_HANDS:
        raise TooMany("hand")
    return as_tuples(stations)


class Way:
    """A way: where the numbers of a series go along."""

    def __init__(self, name, series, stations):
        require_name(name)
        self.name = name
        self.series = series
        self.signs = series.signs
        self.stations = checked_stations(series.signs, stations)

    def __len__(self):
        return len(self.stations)

    def __iter__(self):
        return iter(self.stations)

    def __eq__(self, other):
        return (isinstance(other, Way) and self.name == other.name and self.series == other.series
                and self.stations == other.stations)
