"""Two walks side by side, as nets of pairs of standings."""


class Sides:
    """The pairs of standings to which one paper leads in a first and in a second walk over the same signs."""

    def __init__(self, first, second):
        self.first = first
        self.second = second

    def moves(self, node):
        """The steps of a pair, one for each sign, which they tell."""
        one, other = node
        return [((sign,), (to, beside)) for sign, to, beside
                in zip(self.first.signs, self.first.rows[one], self.second.rows[other])]
