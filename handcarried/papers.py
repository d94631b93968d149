"""Signs, papers, their order, and lags ([2], [3])."""

from handcarried.errors import BadPaper, BadSigns, Unlike
from handcarried.kinds import is_ascending, is_text

ALL_SIGNS = "0123456789ABCDEFGHIJKLMNOPQRSTUVWXYZ"
LEAST_KINDS = 2
MOST_KINDS = 12
MOST_SIGNS = 60


def are_signs(thing):
    """Whether a thing is a string of signs as a house has them."""
    return is_text(thing, LEAST_KINDS, MOST_KINDS, ALL_SIGNS) and is_ascending(thing)


def require_signs(signs):
    """Raise BadSigns unless these are signs of a house."""
    if not are_signs(signs):
        raise BadSigns(signs)


def is_paper(signs, thing):
    """Whether a thing is a paper of these signs that may be passed."""
    return is_text(thing, 0, MOST_SIGNS, signs)


def require_paper(signs, paper):
    """Raise BadPaper unless this is a paper of these signs that may be passed."""
    if not is_paper(signs, paper):
        raise BadPaper(paper)


def require_like_signs(things):
    """Raise Unlike unless all of some things have the same signs."""
    if any([thing.signs != things[0].signs for thing in things]):
        raise Unlike("signs")


def sign_value(signs, sign):
    """The value of a sign: its place in the signs."""
    require_signs(signs)
    return signs.index(sign)


def paper_key(paper):
    """What papers are put in order by: the number of signs, then the paper."""
    return len(paper), paper


def in_order(papers):
    """The papers in order, those that stand twice as often as they do."""
    return tuple(sorted(papers, key=paper_key))


def lag_of(first, second):
    """How two papers compare when their common beginning is taken off."""
    if first == second:
        return "="
    if first.startswith(second):
        return "+" + first[len(second):]
    if second.startswith(first):
        return "-" + second[len(first):]
    return "#"


def lag_on(lag, first, second):
    """The lag that goes on from a lag by two papers put behind the first and the second one."""
    if lag == "#":
        return lag
    rest = lag[1:]
    if lag.startswith("-"):
        return lag_of(first, rest + second)
    return lag_of(rest + first, second)


def is_lag(signs, thing):
    """Whether a thing is a lag of two papers over these signs."""
    if not isinstance(thing, str):
        return False
    if thing in ("=", "#"):
        return True
    return thing[:1] in ("+", "-") and is_text(thing[1:], 1, len(thing), signs)
