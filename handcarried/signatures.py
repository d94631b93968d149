"""Signatures: by which of some rules papers are right, and what all papers of a frame show ([33])."""

from handcarried.papers import require_paper
from handcarried.rules import check_rule, finds_right, rule_walk
from handcarried.tables import grown_table, steps_to


def signature_of(signs, rules, paper):
    """For each rule 1 if it finds a paper right, otherwise 0."""
    told = [check_rule(signs, rule) for rule in rules]
    require_paper(signs, paper)
    return tuple([1 if finds_right(signs, rule, paper) else 0 for rule in told])


def fitting(signs, rules, seen):
    """The lot of the rules that agree with all pairs of a paper and a flag that were seen."""
    told = [check_rule(signs, rule) for rule in rules]
    for paper, _ in seen:
        require_paper(signs, paper)
    return tuple([number for number, rule in enumerate(told)
                  if all([finds_right(signs, rule, one) == (flag == 1) for one, flag in seen])])


class ShownPoint:
    """What the table of a frame and some rules has as entries, and the steps between them."""

    def __init__(self, frame, rules):
        self.frame = frame
        self.walks = [rule_walk(frame.signs, rule) for rule in rules]
        self.lively = {at: True for at in frame.live}
        self.beginning = (0, tuple([0 for _ in self.walks]))

    def left_out(self, entry):
        """Whether no paper of the frame goes through an entry."""
        return entry[0] not in self.lively

    def steps(self, entry):
        """The entries behind an entry, one for each sign."""
        at, standings = entry
        rows = [walk.rows[standing] for walk, standing in zip(self.walks, standings)]
        return [(to, tuple([row[value] for row in rows])) for value, to in enumerate(self.frame.rows[at])]

    def signature(self, entry):
        """What the papers of an entry show."""
        return tuple([1 if standing in walk.goals else 0 for walk, standing in zip(self.walks, entry[1])])


class Signatures:
    """All signatures that the papers of a frame show, each with its least paper."""

    def __init__(self, frame, rules):
        point = ShownPoint(frame, rules)
        ways = grown_table(point)
        self.table = tuple(sorted(ways))
        papers = {}
        # Entries are found by the least papers that lead to them, in order of these papers.
        for entry in ways:
            signature = point.signature(entry)
            if entry[0] in frame.goals and signature not in papers:
                papers[signature] = "".join([frame.signs[number] for number in steps_to(ways, entry)])
        self.shown = tuple(list(papers.items()))
