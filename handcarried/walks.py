"""Walks in their least form ([4])."""

from handcarried.errors import BadWalk, Unlike
from handcarried.kinds import is_ascending, is_tuple, is_tuple_of, is_within
from handcarried.least import MOST_STANDINGS, joined_rows, least_form
from handcarried.papers import is_paper, require_paper, require_signs


def are_rows(signs, thing, most):
    """Whether a thing is a tuple of 1 to most rows of a walk over these signs."""
    if not is_tuple_of(thing, 1, most):
        return False
    return all([is_row(row, len(signs), len(thing)) for row in thing])


def is_row(thing, kinds, many):
    """Whether a thing is a row for so many kinds of signs, in a walk of so many rows."""
    return is_tuple_of(thing, kinds, kinds) and all([is_within(to, 0, many - 1) for to in thing])


def are_goals(thing, many):
    """Whether a thing is an ascending tuple of standings of a walk of so many rows."""
    if not is_tuple(thing) or not all([is_within(goal, 0, many - 1) for goal in thing]):
        return False
    return is_ascending(thing)


class Walk:
    """A walk over signs, kept in its least form."""

    def __init__(self, signs, rows, goals):
        require_signs(signs)
        if not are_rows(signs, rows, MOST_STANDINGS):
            raise BadWalk("rows")
        if not are_goals(goals, len(rows)):
            raise BadWalk("goals")
        self.signs = signs
        self.rows, self.goals = least_form(rows, goals)

    @classmethod
    def everything(cls, signs):
        """The walk by which all papers are right."""
        require_signs(signs)
        return cls(signs, ((0,) * len(signs),), (0,))

    def standing(self, paper, start=0):
        """The standing behind a paper that is walked from a standing."""
        require_paper(self.signs, paper)
        return standing_behind(self, paper, start)

    def right(self, paper):
        """Whether a paper is right."""
        return self.standing(paper) in self.goals

    @property
    def live(self):
        """The lot of the standings from which some paper leads to a goal."""
        # In a least walk the one standing that is not live is no goal and leads to itself alone.
        stuck = [(at,) * len(self.signs) for at in range(len(self.rows))]
        return tuple([at for at, row in enumerate(self.rows) if at in self.goals or row != stuck[at]])

    def least_paper(self, start=0):
        """The least paper that leads from a standing to a goal; None if there is none."""
        found = [start]
        papers = {start: ""}
        done = 0
        while done < len(found):
            at = found[done]
            if at in self.goals:
                return papers[at]
            for sign, to in zip(self.signs, self.rows[at]):
                if to not in papers:
                    papers[to] = papers[at] + sign
                    found.append(to)
            done += 1
        return None

    def __contains__(self, x):
        return is_paper(self.signs, x) and standing_behind(self, x, 0) in self.goals

    def __len__(self):
        return len(self.rows)

    def __getitem__(self, at):
        return self.rows[at]

    def __iter__(self):
        return iter(self.rows)

    def __bool__(self):
        return bool(self.goals)

    def __eq__(self, other):
        return (isinstance(other, Walk) and self.signs == other.signs and self.rows == other.rows
                and self.goals == other.goals)

    def __and__(self, other):
        return joined_walk(self, other, (False, False, False, True))

    def __or__(self, other):
        return joined_walk(self, other, (False, True, True, True))

    def __sub__(self, other):
        return joined_walk(self, other, (False, False, True, False))

    def __invert__(self):
        return Walk(self.signs, self.rows, [at for at in range(len(self.rows)) if at not in self.goals])


def standing_behind(walk, paper, start):
    """The standing behind a paper of the signs of a walk, however long the paper is."""
    return standing_in(walk.signs, walk.rows, paper, start)


def standing_in(signs, rows, paper, start):
    """The standing behind a paper that is walked by some rows from a standing."""
    at = start
    for sign in paper:
        at = rows[at][signs.index(sign)]
    return at


def least_walk(signs, rows, goals):
    """The walk of rows and goals, however many rows there are; TooMany("standing")."""
    rows_left, goals_left = least_form(rows, goals)
    return Walk(signs, rows_left, goals_left)


def joined_walk(first, second, verdicts):
    """Two walks put together: verdicts for papers right by neither, the second one, the first one, both."""
    if first.signs != second.signs:
        raise Unlike("signs")
    found, rows = joined_rows(first.rows, second.rows)
    ones = goal_flags(first)
    others = goal_flags(second)
    goals = [at for at, (one, other) in enumerate(found) if verdicts[2 * ones[one] + others[other]]]
    return least_walk(first.signs, rows, goals)


def goal_flags(walk):
    """For each standing of a walk 1 if it is a goal, otherwise 0."""
    return [1 if at in walk.goals else 0 for at in range(len(walk.rows))]
