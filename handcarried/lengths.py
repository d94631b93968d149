"""The lengths of the right papers of a walk ([7], [14])."""

from handcarried.errors import TooMany
from handcarried.loops import lead_and_loop

MOST_LENGTHS = 600


def length_flags(walk):
    """The lead and the loop of the flags of the lengths; TooMany("length")."""
    lively = {at: True for at in walk.live}
    lot = first_lot(lively)
    lengths = {}
    while lot not in lengths:
        lengths[lot] = len(lengths)
        if len(lengths) == MOST_LENGTHS:
            raise TooMany("length")
        lot = lot_behind(walk, lively, lot)
    flags = [1 if any([at in walk.goals for at in reached]) else 0 for reached in lengths]
    return lead_and_loop(flags, lengths[lot])


def first_lot(lively):
    """The lot of the live standings that the empty paper reaches."""
    return (0,) if 0 in lively else ()


def lot_behind(walk, lively, lot):
    """The lot of the live standings that are reached from a lot with one more sign."""
    return tuple(sorted({to for at in lot for to in walk.rows[at] if to in lively}))
