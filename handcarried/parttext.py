"""The lines of series, hands and ways, written ([40])."""

from handcarried.ruletext import write_rule
from handcarried.words import paper_word

NO_MOST = "any"


def write_series(series):
    """The lines of a series."""
    fields = [field_line(field) for field in series.form]
    return (f"series {series.name}", *fields, f"rule {write_rule(series.rule)}")


def write_hand(hand):
    """The lines of a hand."""
    return (f"hand {hand.name}", *[slip_line(slip) for slip in hand.slips])


def write_way(way):
    """The lines of a way."""
    return (f"way {way.name} {way.series.name}", *[station_line(station) for station in way.stations])


def field_line(field):
    """The line of a field."""
    if field[0] == "words":
        return f"words {field[1]} {','.join(field[2])}"
    name, allowed, least, most = field[1:]
    return f"run {name} {allowed} {least} {NO_MOST if most is None else most}"


def slip_line(slip):
    """The line of a slip."""
    name, price, patterns = slip
    words = ["slip", name, str(price)]
    for before, behind in patterns:
        words.extend([before, paper_word(behind)])
    return " ".join(words)


def station_line(station):
    """The line of a station."""
    kind = station[0]
    if kind == "spell":
        return f"spell {','.join(station[1])} {paper_word(station[2])} {paper_word(station[3])}"
    if kind == "echo":
        return f"echo {station[1].name} {station[2]}"
    return f"{kind} {station[1].name}"
