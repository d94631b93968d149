"""Ways that the tests of ways share, and ways by chance."""

from handcarried.errors import TooMany
from handcarried.hands import Hand
from handcarried.ways import Way
from helpers import free_series
from test_crossings import exactly, some_series
from test_prices import some_hand

ANY = ("any",)
ALL = free_series("all", "01")
EVEN = free_series("even", "01", ("sum", 2, (1,), 0))
NONE = free_series("none", "01", ("not", ANY))
TURN = Hand("turn", "01", (("a", 1, (("x", "y"),)),))
SWAP = Hand("swap", "01", (("a", 1, (("xy", "yx"),)),))
LOST = Hand("lost", "01", (("a", 2, (("x", ""),)), ("b", 1, (("xx", "x"),))))
STILL = Hand("still", "01", ())
SPELL = ("spell", ("0", "11"), "1", "0")


def way_of(series, *stations):
    return Way("some", series, stations)


def little_series(dice):
    """A series over 01 of which many papers are numbers."""
    kind = dice.randrange(10)
    if kind < 3:
        return ALL
    if kind < 6:
        many = dice.randrange(2, 4)
        weights = tuple(dice.randrange(many) for _ in range(dice.randrange(1, 3)))
        return free_series("added", "01", ("sum", many, weights, dice.randrange(many)))
    if kind < 8:
        return exactly("01", *{"".join(dice.choice("01") for _ in range(dice.randrange(1, 4)))
                               for _ in range(dice.randrange(1, 5))})
    return some_series(dice, "01")


def little_hand(dice, most):
    while True:
        hand = some_hand(dice, "01", most)
        if 1 <= len(hand.pairs) <= 10:
            return hand


def some_station(dice, number, kinds, most):
    kind = dice.choice(kinds)
    if kind == "hand":
        return (kind, little_hand(dice, most))
    if kind == "echo":
        return (kind, little_hand(dice, most), dice.randrange(number + 1))
    if kind in ("desk", "clerk"):
        return (kind, little_series(dice))

    def text(least, longest):
        return "".join(dice.choice("01") for _ in range(dice.randrange(least, longest + 1)))

    return ("spell", (text(1, 2), text(1, 2)), text(0, 1), text(0, 1))


def some_way(dice, many=3, kinds=("hand", "hand", "desk", "clerk", "spell", "echo"), most=2):
    """A way of up to so many stations over 01."""
    while True:
        try:
            return way_of(little_series(dice), *(some_station(dice, number, kinds, most)
                                                 for number in range(dice.randrange(many + 1))))
        except TooMany:
            continue
