"""Series of numbers ([7])."""

from handcarried.forms import check_form, form_walk
from handcarried.names import require_name
from handcarried.papers import require_paper, require_signs
from handcarried.rules import check_rule, rule_walk
from handcarried.walks import standing_behind


class Series:
    """A series: the papers that its form lets by and its rule finds right."""

    def __init__(self, name, signs, form, rule):
        require_name(name)
        require_signs(signs)
        self.name = name
        self.signs = signs
        self.form = check_form(signs, form)
        self.rule = check_rule(signs, rule)
        self.frame = form_walk(signs, self.form)
        self.walk = self.frame & rule_walk(signs, self.rule)

    def check_signs(self, body):
        """The signs that make a number of a paper when they are put behind it."""
        require_paper(self.signs, body)
        row = self.walk.rows[standing_behind(self.walk, body, 0)]
        return tuple([sign for sign, to in zip(self.signs, row) if to in self.walk.goals])

    def __contains__(self, x):
        return x in self.walk

    def __bool__(self):
        return bool(self.walk)

    def __eq__(self, other):
        return (isinstance(other, Series) and self.name == other.name and self.signs == other.signs
                and self.form == other.form and self.rule == other.rule)
