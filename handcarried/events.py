"""The events of a length, and the lengths of the numbers that are missed ([18])."""

from handcarried.bits import bits_of, lot_of
from handcarried.errors import TooMany
from handcarried.finding import FindingPoint
from handcarried.lengths import MOST_LENGTHS
from handcarried.loops import lead_and_loop
from handcarried.nets import grown_net
from handcarried.papers import require_like_signs
from handcarried.pieces import column_of
from handcarried.sides import Sides
from handcarried.tables import grown_table
from handcarried.walks import goal_flags

MOST_BEFORE = 3


def events(series, hand, length):
    """How many events the numbers of a length have, and how many of those have a copy that is a number."""
    require_like_signs((series, hand))
    slips = slips_of(series.walk, hand)
    net = grown_net(Sides(series.walk, series.walk), [pair for _, _, pair in slips], {})
    numbered = {pair: number for number, pair in enumerate(net)}
    rows = [[numbered[to] for _, to in steps] for steps in net.values()]
    counts = slipped_counts(series.walk, [(at, many, numbered[pair]) for at, many, pair in slips], rows, length)
    goals = goal_flags(series.walk)
    ended = [(many, other) for (one, other), many in zip(net, counts) if goals[one]]
    return sum([many for many, _ in ended]), sum([many for many, other in ended if goals[other]])


def slips_of(walk, hand):
    """For each pair of a hand and each standing: the standing, how many signs the before has, the pair behind."""
    out = []
    for before, behind, _ in hand.pairs:
        for at, pair in enumerate(zip(column_of(walk, before), column_of(walk, behind))):
            out.append((at, len(before), pair))
    return out


def slipped_counts(walk, slips, rows, length):
    """For each pair of standings how many events lead a number and its copy there, behind so many signs."""
    leading = [1 if at == 0 else 0 for at in range(len(walk))]
    counts = [[0 for _ in rows] for _ in range(max(length, 0) + MOST_BEFORE + 1)]
    for done in range(length):
        for at, many, pair in slips:
            counts[done + many][pair] += leading[at]
        leading = spread(walk.rows, leading)
        counts[done + 1] = [one + other for one, other in zip(counts[done + 1], spread(rows, counts[done]))]
    return counts[max(length, 0)]


def spread(rows, counts):
    """How many lead to each standing with one sign more."""
    out = [0 for _ in rows]
    for many, row in zip(counts, rows):
        if many:
            for to in row:
                out[to] += many
    return out


def missing_lengths(series, hand, *, most=1):
    """The lead and the loop of the lengths of which a number is missed; TooMany("entry"), TooMany("length")."""
    point = FindingPoint(series, hand, most)
    entries = list(grown_table(point))
    bad = bits_of([number for number, entry in enumerate(entries) if point.bad(entry)])
    leads = leads_of(point, entries)
    # Lots are bits of an integer here; the beginning is the entry 0.
    lots = [1 if entries else 0]
    lengths = {}
    for length in range(MOST_LENGTHS - MOST_BEFORE + 1):
        while len(lots) < length + MOST_BEFORE:
            lots.append(next_lot(leads, lots))
        neighbours = tuple(lots[length:])
        if neighbours in lengths:
            return lead_and_loop([1 if lot & bad else 0 for lot in lots[:length]], lengths[neighbours])
        lengths[neighbours] = length
    raise TooMany("length")


def leads_of(point, entries):
    """For one, two and three signs of a number, and each entry, the entries to which pieces with so many lead."""
    numbered = {entry: number for number, entry in enumerate(entries)}
    leads = [[], [], []]
    for entry in entries:
        behind = [[], [], []]
        for told, to in point.moves(entry):
            if to in numbered:
                behind[len(told[0]) - 1].append(numbered[to])
        for many in range(MOST_BEFORE):
            leads[many].append(bits_of(behind[many]))
    return leads


def next_lot(leads, lots):
    """The lot of the length behind those of some lots."""
    bits = 0
    for many in range(min(MOST_BEFORE, len(lots))):
        for number in lot_of(lots[len(lots) - many - 1]):
            bits = bits | leads[many][number]
    return bits
