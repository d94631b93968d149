"""Stories: how one number goes along a way ([24])."""

from handcarried.errors import BadCopying, BadNumber
from handcarried.kinds import is_tuple
from handcarried.stations import least_check
from handcarried.walks import standing_behind


def follow(way, number, copyings):
    """The end, the price, all papers and the lot of the stations that slipped, when hands copy as they are told."""
    return told_story(way, number, Told(copyings))


def clean_story(way, number):
    """The same for the story without slips."""
    return told_story(way, number, Clean())


class Told:
    """Copyings that were told, each of them taken when it is needed."""

    def __init__(self, copyings):
        self.copyings = copyings if is_tuple(copyings) else ()
        self.done = 0

    def copied(self, hand, paper):
        """The copy of a paper by the next copying, and its price; BadCopying."""
        if self.done == len(self.copyings):
            raise BadCopying(self.done)
        told = copied_by(hand, self.copyings[self.done])
        if told is None or told[0] != paper:
            raise BadCopying(self.done)
        self.done += 1
        return told[1], told[2]


class Clean:
    """Copyings without slips."""

    def copied(self, hand, paper):
        """The copy of a paper, and its price."""
        return paper, 0


def copied_by(hand, copying):
    """The paper, the copy and the price of a copying, None if it does not have the form."""
    try:
        return hand(copying)
    except BadCopying:
        return None


def told_story(way, number, source):
    """The story of a number with the copyings of a source; BadNumber."""
    if number not in way.series:
        raise BadNumber(number)
    papers = [number]
    price = 0
    slipped = []
    for k, station in enumerate(way.stations):
        copy = papers[-1]
        if station[0] == "hand" or station[0] == "echo":
            copy, more = source.copied(station[1], papers[-1])
            price = price + more
            # A piece of a pair is never for nothing.
            if more > 0:
                slipped.append(k)
        written = written_by(way.signs, station, papers, copy)
        if written is None:
            return ("stopped", k, papers[-1]), price, tuple(papers), tuple(slipped)
        papers.append(written)
    return ("arrived", papers[-1]), price, tuple(papers), tuple(slipped)


def written_by(signs, station, papers, copy):
    """What a station writes when it reads the last of some papers, of which its hand has made a copy; or None."""
    kind = station[0]
    paper = papers[-1]
    if kind == "hand":
        return copy
    if kind == "echo":
        return paper if copy == papers[station[2]] else None
    if kind == "desk":
        walk = station[1].walk
        return paper if standing_behind(walk, paper, 0) in walk.goals else None
    if kind == "clerk":
        return checked_anew(station[1].walk, paper)
    return spelled(signs, station, paper)


def checked_anew(walk, paper):
    """A paper with the least check sign in the place of its last sign; None if it has none."""
    if paper == "":
        return None
    sign = least_check(walk, standing_behind(walk, paper[:-1], 0))
    return None if sign is None else paper[:-1] + sign


def spelled(signs, station, paper):
    """What a speller writes for a paper."""
    _, texts, ahead, behind = station
    return ahead + "".join([texts[signs.index(sign)] for sign in paper]) + behind
