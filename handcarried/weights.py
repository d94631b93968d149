"""Weightings: the first one of a modulus and a length that finds a hand, and what bars the others ([22])."""

from handcarried.errors import TooMany
from handcarried.kinds import is_tuple_of, is_within
from handcarried.pieces import require_like_lengths
from handcarried.sums import weightings

MOST_WEIGHTINGS = 3000


class Weights:
    """Whether some weighting of a modulus and a length finds a hand; and the bars of those ahead of it, or of all."""

    def __init__(self, hand, modulus, length):
        require_few_weightings(hand, modulus, length)
        differences = first_differences(hand)
        bars = []
        self.weights = None
        for weights in weightings(modulus, length):
            bar = first_bar(differences, modulus, weights)
            if bar is None:
                self.weights = weights
                break
            bars.append(bar)
        self.bars = tuple(bars)

    def __bool__(self):
        return self.weights is not None


def judge_bars(hand, modulus, length, bars):
    """-1, the number of the first wrong bar, or None if the bars of all weightings are right."""
    require_few_weightings(hand, modulus, length)
    passed = weightings(modulus, length)
    if not is_tuple_of(bars, len(passed), len(passed)):
        return -1
    differences = {(before, behind): difference_of(hand.signs, before, behind) for before, behind, _ in hand.pairs}
    for number, weights in enumerate(passed):
        if not is_bar(differences, modulus, weights, bars[number]):
            return number
    return None


def require_few_weightings(hand, modulus, length):
    """Raise Unfit("length"), or TooMany("weighting")."""
    require_like_lengths(hand)
    many = 1
    for _ in range(length):
        many = many * modulus
    if many > MOST_WEIGHTINGS:
        raise TooMany("weighting")


def difference_of(signs, before, behind):
    """The values of a paper less those of another one."""
    return tuple([signs.index(one) - signs.index(other) for one, other in zip(before, behind)])


def first_differences(hand):
    """The first pair for each difference that pairs of a hand have: the same weightings bar all of these."""
    found = {}
    for before, behind, _ in hand.pairs:
        found.setdefault(difference_of(hand.signs, before, behind), (before, behind))
    return found


def first_bar(differences, modulus, weights):
    """The least place that is barred, with the first pair that bars it; None if there is none."""
    for place in range(len(weights)):
        for difference, pair in differences.items():
            if is_barred(modulus, weights, place, difference):
                return (place, *pair)
    return None


def is_barred(modulus, weights, place, difference):
    """Whether two papers with this difference leave the same rest when they begin at a place of a weighting."""
    many = len(weights)
    return sum([weights[(place + at) % many] * value for at, value in enumerate(difference)]) % modulus == 0


def is_bar(differences, modulus, weights, thing):
    """Whether a thing is a true bar of a weighting."""
    if not is_tuple_of(thing, 3, 3) or not is_within(thing[0], 0, len(weights) - 1):
        return False
    place, before, behind = thing
    if not isinstance(before, str) or not isinstance(behind, str) or (before, behind) not in differences:
        return False
    return is_barred(modulus, weights, place, differences[before, behind])
