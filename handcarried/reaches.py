"""Which standings of a walk lead to a goal with just so many signs, and the right papers that this finds ([14])."""

from handcarried.bits import bits_of


class Reach:
    """What is known of a walk, for ever more signs as they are asked for."""

    def __init__(self, walk):
        self.signs = walk.signs
        self.rows = walk.rows
        # As bits of an integer: the standings behind each standing, and for each number of signs those that reach.
        self.behind = [bits_of(row) for row in walk.rows]
        self.reaching = [bits_of(walk.goals)]

    def leads(self, at, many):
        """Whether some paper of so many signs leads from a standing to a goal."""
        while len(self.reaching) <= many:
            reached = self.reaching[-1]
            self.reaching.append(bits_of([ahead for ahead, bits in enumerate(self.behind) if bits & reached]))
        return self.reaching[many] >> at & 1 == 1

    def first_of(self, length, values):
        """The first right paper of so many signs, the values of signs in this order; None if there is none."""
        return self.completed("", 0, length, values) if self.leads(0, length) else None

    def beside(self, paper, values):
        """The first right paper behind a paper among those with as many signs; None if there is none."""
        standings = self.standings_along(paper)
        for place in range(len(paper) - 1, -1, -1):
            row = self.rows[standings[place]]
            left = len(paper) - place - 1
            done = values.index(self.signs.index(paper[place])) + 1
            for value in values[done:]:
                if self.leads(row[value], left):
                    return self.completed(paper[:place] + self.signs[value], row[value], left, values)
        return None

    def standings_along(self, paper):
        """The standings ahead of each sign of a paper."""
        standings = [0]
        for sign in paper:
            standings.append(self.rows[standings[-1]][self.signs.index(sign)])
        return standings

    def completed(self, paper, at, many, values):
        """The first right paper that goes on from a paper, which led to a standing, by so many signs."""
        signs = [paper]
        here = at
        for left in range(many - 1, -1, -1):
            first = [value for value in values if self.leads(self.rows[here][value], left)][0]
            signs.append(self.signs[first])
            here = self.rows[here][first]
        return "".join(signs)
