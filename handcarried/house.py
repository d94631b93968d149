"""Houses ([38])."""

from handcarried.errors import TooMany, Twice, Unknown, Unlike
from handcarried.kinds import first_double
from handcarried.papers import require_signs

MOST_THINGS = 6


def named(things, name):
    """The thing with a name; Unknown."""
    for thing in things:
        if thing.name == name:
            return thing
    raise Unknown(name)


def require_few(things, what):
    """Raise TooMany if there are more things of a kind than a house has."""
    if len(things) > MOST_THINGS:
        raise TooMany(what)


def require_names(things):
    """Raise Twice for the first of some things with the name of an earlier one."""
    name = first_double([thing.name for thing in things])
    if name is not None:
        raise Twice(name)


class House:
    """A house: signs, and the series, hands and ways over them."""

    def __init__(self, signs, serieses, hands, ways):
        require_signs(signs)
        require_few(serieses, "series")
        require_few(hands, "hand")
        require_few(ways, "way")
        for things in (serieses, hands, ways):
            require_names(things)
        if any([thing.signs != signs for thing in [*serieses, *hands, *ways]]):
            raise Unlike("signs")
        self.signs = signs
        self.serieses = tuple(serieses)
        self.hands = tuple(hands)
        self.ways = tuple(ways)

    def series_named(self, name):
        """The series with this name."""
        return named(self.serieses, name)

    def hand_named(self, name):
        """The hand with this name."""
        return named(self.hands, name)

    def way_named(self, name):
        """The way with this name."""
        return named(self.ways, name)

    def __eq__(self, other):
        return (isinstance(other, House) and self.signs == other.signs and self.serieses == other.serieses
                and self.hands == other.hands and self.ways == other.ways)
