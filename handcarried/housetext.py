"""The lines of a house, written and read ([38], [40])."""

from handcarried.errors import Unknown
from handcarried.hands import Hand
from handcarried.house import House, named
from handcarried.partlines import Lines, read_hand, read_series, read_way
from handcarried.parttext import write_hand, write_series, write_way
from handcarried.series import Series
from handcarried.ways import Way, own_things
from handcarried.words import signs_in


def write_house(house):
    """The lines of a house; Unknown."""
    return tuple(house_lines(house))


def house_lines(house):
    """Yield the lines of a house; Unknown at the first step."""
    require_own(house)
    yield f"signs {house.signs}"
    for series in house.serieses:
        yield from write_series(series)
    for hand in house.hands:
        yield from write_hand(hand)
    for way in house.ways:
        yield from write_way(way)


def require_own(house):
    """Raise Unknown for the first thing in the ways that is none of the house."""
    for way in house.ways:
        for thing in [way.series, *own_things(way.stations)]:
            if thing not in house.serieses and thing not in house.hands:
                raise Unknown(thing.name)


def read_house(lines):
    """The house that lines tell; BadLine, then the errors of the objects."""
    reader = Lines(lines)
    signs = read_signs(reader)
    serieses = []
    while reader.begins(("series",)):
        serieses.append(read_series(reader))
    hands = []
    while reader.begins(("hand",)):
        hands.append(read_hand(reader))
    ways = []
    while reader.begins(("way",)):
        ways.append(read_way(reader))
    reader.finish()
    return made_house(signs, serieses, hands, ways)


def read_signs(lines):
    """The signs in the first line."""
    words = lines.take_line()
    words.take_one_of(("signs",))
    signs = words.taken(signs_in(words.here()))
    words.finish()
    return signs


def made_house(signs, serieses, hands, ways):
    """The house made of what was read."""
    own_serieses = [Series(name, signs, form, rule) for name, form, rule in serieses]
    own_hands = [Hand(name, signs, slips) for name, slips in hands]
    own_ways = [made_way(own_serieses, own_hands, told) for told in ways]
    return House(signs, own_serieses, own_hands, own_ways)


def made_way(serieses, hands, told):
    """The way made of what was read; Unknown goes ahead of its own errors."""
    name, series_name, stations = told
    series = named(serieses, series_name)
    return Way(name, series, [made_station(serieses, hands, station) for station in stations])


def made_station(serieses, hands, station):
    """A station with its thing in the place of the name."""
    kind = station[0]
    if kind == "spell":
        return station
    things = hands if kind == "hand" or kind == "echo" else serieses
    return (kind, named(things, station[1]), *station[2:])
