"""Ranks: the numbers of a series in their order ([7], [14])."""

from handcarried.errors import NoNumber
from handcarried.lengths import first_lot, lot_behind
from handcarried.papers import MOST_SIGNS, require_paper
from handcarried.reaches import Reach
from handcarried.walks import goal_flags

MOST_TOLD = 200


class Roll:
    """The roll of a series: its numbers by their ranks."""

    def __init__(self, series):
        self.series = series

    def __getitem__(self, at):
        return nth_number(self.series, at)

    def __contains__(self, x):
        return x in self.series

    def __iter__(self):
        raise TypeError("a roll may have no end: iterate over the numbers of its series")


def count_of(series, length):
    """How many numbers of a series have so many signs."""
    return counts_upto(series.walk, length)[length][0] if length >= 0 else 0


def rank_of(series, paper):
    """How many numbers of a series come ahead of a paper in order."""
    require_paper(series.signs, paper)
    counts = counts_upto(series.walk, len(paper))
    rank = sum([counts[many][0] for many in range(len(paper))])
    at = 0
    for place, sign in enumerate(paper):
        row = series.walk.rows[at]
        value = series.signs.index(sign)
        left = counts[len(paper) - place - 1]
        rank += sum([left[to] for to in row[:value]])
        at = row[value]
    return rank


def nth_number(series, rank):
    """The number of a series with a rank; NoNumber."""
    counts = [goal_flags(series.walk)]
    ahead = 0
    while rank >= ahead and len(counts) <= MOST_TOLD + 1:
        many = counts[-1][0]
        if rank < ahead + many:
            return number_within(series.walk, counts, rank - ahead)
        ahead = ahead + many
        counts.append(counts_ahead(series.walk, counts[-1]))
    raise NoNumber(rank)


def next_number(series, paper):
    """The first number of a series behind a paper in order; None if there is none."""
    require_paper(series.signs, paper)
    reach = Reach(series.walk)
    values = list(range(len(series.signs)))
    number = reach.beside(paper, values)
    length = len(paper)
    # From each live standing fewer signs than there are standings lead to a goal.
    while number is None and length < len(paper) + len(series.walk):
        length += 1
        number = reach.first_of(length, values)
    return number


def numbers_behind(series, paper, many):
    """The next numbers behind a paper, or the first ones, that may be passed: at most so many."""
    reach = Reach(series.walk)
    values = list(range(len(series.signs)))
    found = []
    number = None if paper is None else reach.beside(paper, values)
    length = -1 if paper is None else len(paper)
    while len(found) < many:
        while number is None:
            length += 1
            if length > MOST_SIGNS:
                return found
            number = reach.first_of(length, values)
        found.append(number)
        number = reach.beside(number, values)
    return found


def last_number(series, paper):
    """The last number of a series ahead of a paper in order; None if there is none."""
    require_paper(series.signs, paper)
    reach = Reach(series.walk)
    values = list(range(len(series.signs) - 1, -1, -1))
    number = reach.beside(paper, values)
    length = len(paper)
    while number is None and length > 0:
        length = length - 1
        number = reach.first_of(length, values)
    return number


def numbers(series):
    """All numbers of a series in order, one by one."""
    reach = Reach(series.walk)
    values = list(range(len(series.signs)))
    lively = {at: True for at in series.walk.live}
    lot = first_lot(lively)
    length = 0
    while lot:
        number = reach.first_of(length, values)
        while number is not None:
            yield number
            number = reach.beside(number, values)
        lot = lot_behind(series.walk, lively, lot)
        length += 1


def counts_upto(walk, length):
    """For each number of signs up to a length and each standing: how many such papers lead from it to a goal."""
    counts = [goal_flags(walk)]
    while len(counts) <= length:
        counts.append(counts_ahead(walk, counts[-1]))
    return counts


def counts_ahead(walk, counts):
    """The counts for one sign more."""
    return [sum([counts[to] for to in row]) for row in walk.rows]


def number_within(walk, counts, rank):
    """The number with a rank among those that have as many signs as the last of the counts tell of."""
    signs = []
    at = 0
    ahead = 0
    for many in range(len(counts) - 2, -1, -1):
        left = counts[many]
        value = 0
        while ahead + left[walk.rows[at][value]] <= rank:
            ahead = ahead + left[walk.rows[at][value]]
            value += 1
        signs.append(walk.signs[value])
        at = walk.rows[at][value]
    return "".join(signs)
