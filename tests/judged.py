"""What the tests of all judged tables share."""

from helpers import ODD_THINGS


def spoilt(dice, table, odd):
    """A table to which something was done: entries are gone, come twice, in another order, or are spoilt."""
    out = [list(entry) if dice.random() < 0.2 else entry for entry in table]
    for _ in range(dice.randrange(3)):
        what = dice.randrange(6)
        if not out:
            return out
        k = dice.randrange(len(out))
        if what == 0:
            del out[k]
        elif what == 1:
            out.insert(dice.randrange(len(out) + 1), out[k])
        elif what == 2:
            dice.shuffle(out)
        elif what == 3:
            out.insert(k, dice.choice(odd))
        else:
            entry = list(out[k])
            entry[dice.randrange(len(entry))] = dice.choice([0, 1, 2, 3, -1, True, False, None, "=", "#", "+0", "-1"])
            out.insert(dice.randrange(len(out) + 1), tuple(entry))
    return tuple(out) if dice.random() < 0.5 else out


def odd_entries(beginning):
    """Things that are no entries, some of them nearly the beginning."""
    out = [*ODD_THINGS, beginning[:-1], (*beginning, 0), (*beginning, "="), (beginning,), "0" * len(beginning)]
    for k in range(len(beginning)):
        for other in (True, False, None, "0", 0.0, -1, (0,), "", "+", "-", "=0", "#1", "+9", "+ ", "0", b"=", ["="]):
            out.append((*beginning[:k], other, *beginning[k + 1:]))
    return out
