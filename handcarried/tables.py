"""Tables of entries, and how those that are passed are judged ([10]).

A point on a table is an object that tells:
beginning (an attribute): the entry that is the beginning;
entry_of(thing): the entry that a thing is, as tuples; None if it does not have the form;
left_out(entry), bad(entry): whether an entry is left out, or bad;
steps(entry): the entries to which the steps lead; some that are left out may be among them;
moves(entry): where more is told of the table, the same steps as they are in a net, with what they tell.
"""

from handcarried.errors import TooMany
from handcarried.kinds import is_tuple, is_whole

MOST_ENTRIES = 2000


def grown_table(point):
    """A dict of the entries that are reached, in the order in which they are found; TooMany("entry").

    Each has the entry ahead of it and the number of the step by which it was first found, the beginning None.
    """
    if point.left_out(point.beginning):
        return {}
    ways = {point.beginning: None}
    found = [point.beginning]
    done = 0
    while done < len(found):
        entry = found[done]
        done += 1
        for number, behind in enumerate(point.steps(entry)):
            if behind not in ways and not point.left_out(behind):
                ways[behind] = (entry, number)
                found.append(behind)
        if len(found) > MOST_ENTRIES:
            raise TooMany("entry")
    return ways


def steps_to(ways, entry):
    """The numbers of the steps by which an entry was first found."""
    taken = []
    here = entry
    while ways[here] is not None:
        here, number = ways[here]
        taken.append(number)
    return taken[::-1]


def net_of(point, ways):
    """The net of the entries of a table that was grown."""
    return {entry: [(told, behind) for told, behind in point.moves(entry) if behind in ways] for entry in ways}


def is_price(thing):
    """Whether a thing is a price as entries have it."""
    return is_whole(thing) and thing >= 0


def judge_table(point, table):
    """-1, the number of the first wrong entry, or None if the table is right."""
    if not is_tuple(table):
        return -1
    entries = [point.entry_of(thing) for thing in table]
    known = {entry: True for entry in entries if entry is not None}
    if not point.left_out(point.beginning) and point.beginning not in known:
        return -1
    for number, entry in enumerate(entries):
        if entry is None or point.left_out(entry) or point.bad(entry):
            return number
        if any([behind not in known and not point.left_out(behind) for behind in point.steps(entry)]):
            return number
    return None
