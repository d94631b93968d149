"""Contexts: what a walk is blind to, what it always sees, and signs that can be exchanged ([12])."""

from handcarried.nets import Texts, grown_net
from handcarried.papers import require_paper
from handcarried.sides import Sides
from handcarried.walks import goal_flags, standing_behind


class Blind:
    """Whether a walk is blind to two papers; if not, the least telling context."""

    def __init__(self, walk, first, second):
        self.context = least_context(walk, first, second, 1)

    def __bool__(self):
        return self.context is None


class Seeing:
    """Whether a walk always sees two papers; if not, the least hiding context."""

    def __init__(self, walk, first, second):
        self.context = least_context(walk, first, second, 2)

    def __bool__(self):
        return self.context is None


def sign_classes(walk):
    """The classes of signs that can be exchanged, as lots of their values."""
    lots = {}
    for value in range(len(walk.signs)):
        # In a least walk such signs lead from each standing to the same one.
        lots.setdefault(tuple([row[value] for row in walk.rows]), []).append(value)
    return tuple([tuple(lot) for lot in lots.values()])


def least_context(walk, first, second, many):
    """The least context in which just so many of the two papers are right; None if there is none."""
    require_paper(walk.signs, first)
    require_paper(walk.signs, second)
    starts = [(standing_behind(walk, first, at), standing_behind(walk, second, at)) for at in range(len(walk))]
    net = grown_net(Sides(walk, walk), starts, {})
    goals = goal_flags(walk)
    ends = [(one, other) for one, other in net if goals[one] + goals[other] == many]
    texts = Texts(net, ends, 0)
    aheads = least_papers_to(walk)
    # Standings are numbered in the order of their least papers, so a lower number is a lesser paper ahead.
    sizes = [(len(aheads[at]) + texts.sizes[pair], at) for at, pair in enumerate(starts) if pair in texts.sizes]
    if not sizes:
        return None
    _, at = min(sizes)
    after, _ = texts.least_from(starts[at])
    return aheads[at], after


def least_papers_to(walk):
    """For each standing the least paper that leads to it."""
    papers = [""]
    at = 0
    while len(papers) < len(walk):
        for sign, to in zip(walk.signs, walk.rows[at]):
            # Standings are numbered as they are found, so a new one has the next number.
            if to == len(papers):
                papers.append(papers[at] + sign)
        at += 1
    return papers
