"""Walks that are alike, perhaps within a frame ([11])."""

from handcarried.errors import Unlike
from handcarried.kinds import is_tuple_of, is_within
from handcarried.tables import grown_table, judge_table, steps_to
from handcarried.walks import Walk


class AlikePoint:
    """What the table of two walks has as entries, and the steps between them."""

    def __init__(self, first, second, frame):
        self.walks = (first, second, framing_walk(first, second, frame))
        self.lively = {at: True for at in self.walks[2].live}
        self.beginning = (0, 0, 0)

    def entry_of(self, thing):
        """The entry that a thing is, None if it has not the form."""
        if not is_tuple_of(thing, 3, 3):
            return None
        if not all([is_within(at, 0, len(walk) - 1) for at, walk in zip(thing, self.walks)]):
            return None
        return tuple(thing)

    def left_out(self, entry):
        """Whether no paper of the frame goes through an entry."""
        return entry[2] not in self.lively

    def bad(self, entry):
        """Whether the papers of an entry are of the frame, and just one walk finds them right."""
        one, other, framed = [at in walk.goals for at, walk in zip(entry, self.walks)]
        return framed and one != other

    def steps(self, entry):
        """The entries behind an entry, one for each sign."""
        first, second, frame = self.walks
        return list(zip(first.rows[entry[0]], second.rows[entry[1]], frame.rows[entry[2]]))


def framing_walk(first, second, frame):
    """The frame, or the walk of all papers; Unlike("signs")."""
    if first.signs != second.signs:
        raise Unlike("signs")
    if frame is None:
        return Walk.everything(first.signs)
    if frame.signs != first.signs:
        raise Unlike("signs")
    return frame


class Alike:
    """Whether two walks have the same right papers, among those of a frame."""

    def __init__(self, first, second, *, frame=None):
        point = AlikePoint(first, second, frame)
        ways = grown_table(point)
        self.table = tuple(sorted(ways))
        self.parting = None
        # Entries are found by the least papers that lead to them, in order of these papers.
        bad = [entry for entry in ways if point.bad(entry)]
        if bad:
            self.parting = "".join([first.signs[number] for number in steps_to(ways, bad[0])])

    def __bool__(self):
        return self.parting is None

    def __iter__(self):
        return iter(self.table)


def judge_alike(first, second, table, *, frame=None):
    """What is wrong with a table of two walks: -1, the number of an entry, or None."""
    return judge_table(AlikePoint(first, second, frame), table)
