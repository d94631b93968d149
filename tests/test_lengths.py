"""Promises [7] and [14]: the lengths of right papers, as a lead and a loop."""

import random

from handcarried.errors import TooMany
from handcarried.lengths import length_flags
from handcarried.rules import rule_walk
from handcarried.series import Series
from handcarried.walks import Walk
from helpers import Case, counter
from test_walks import some_walk

EVERYTHING = Walk.everything("01")


def flags_upto(walk, many):
    """The flags of the lengths up to one, by the standings that so many signs lead to."""
    here = {0}
    out = []
    for _ in range(many + 1):
        out.append(1 if here & set(walk.goals) else 0)
        here = {to for at in here for to in walk.rows[at]}
    return out


def unrolled(lead, loop, many):
    out = list(lead)
    while len(out) <= many:
        out += loop
    return out[:many + 1]


def shortest(flags):
    """The lead and the loop of flags that are long enough, by trying all."""
    for size in range(1, len(flags)):
        for many in range(len(flags) // 2):
            if flags == unrolled(flags[:many], flags[many:many + size], len(flags) - 1):
                return tuple(flags[:many]), tuple(flags[many:many + size])
    return None


def rounds(ahead, *sizes):
    """The walk in which one goes some signs ahead, and then by the next one into a round of one of these sizes.

    Of each round only the first standing is a goal.
    """
    signs = "0123456789AB"[:max(2, len(sizes))]
    firsts = [ahead + 1 + sum(sizes[:k]) for k in range(len(sizes))]
    rows = [(at + 1,) * len(signs) for at in range(ahead)]
    rows.append(tuple(firsts[min(k, len(sizes) - 1)] for k in range(len(signs))))
    for first, size in zip(firsts, sizes):
        rows += [(first + (at + 1) % size,) * len(signs) for at in range(size)]
    return Walk(signs, rows, firsts)


class TestLengths(Case):
    def test_ordinary_walks(self):
        self.same(length_flags(counter("01", 3)), ((), (1, 0, 0)))
        self.same(length_flags(counter("01", 3, (1, 2))), ((), (0, 1, 1)))
        self.same(length_flags(EVERYTHING), ((), (1,)))
        self.same(length_flags(rule_walk("01", ("sum", 5, (1,), 3))), ((0, 0, 0), (1,)))
        self.same(length_flags(Walk("01", ((1, 1), (2, 2), (1, 1)), (0, 2))), ((), (1, 0)))
        self.same(length_flags(Walk("01", ((1, 1), (2, 2), (1, 1)), (0, 1))), ((1,), (1, 0)))

    def test_of_a_series(self):
        form = (("run", "a", "01", 2, None), ("words", "b", ("01",)))
        self.same(length_flags(Series("x", "01", form, ("any",)).walk), ((0, 0, 0, 0), (1,)))
        self.same(length_flags(Series("x", "01", form, ("sum", 2, (1,), 0)).walk), ((0, 0, 0, 0), (1,)))
        self.same(length_flags(Series("x", "01", (("run", "a", "1", 0, None),), ("sum", 4, (1,), 2)).walk),
                  ((), (0, 0, 1, 0)))

    def test_without_right_papers(self):
        self.same(length_flags(~EVERYTHING), ((), (0,)))
        self.same(length_flags(Walk("012", ((1, 1, 1), (0, 0, 0)), ())), ((), (0,)))

    def test_few_right_papers(self):
        self.same(length_flags(Walk("01", ((1, 1), (1, 1)), (0,))), ((1,), (0,)))
        self.same(length_flags(Walk("01", ((1, 2), (2, 2), (2, 2)), (0, 1))), ((1, 1), (0,)))
        rows = [(at + 1, at + 1) for at in range(148)] + [(149, 149), (149, 149)]
        self.same(length_flags(Walk("01", rows, (148,))), ((0,) * 148 + (1,), (0,)))

    def test_the_loop_goes_ahead_of_the_lead(self):
        # Each second length has papers: there is no lead, though a lot comes again only behind the second sign.
        walk = Walk("01", ((1, 1), (2, 2), (3, 3), (2, 2)), (1, 3))
        self.same(length_flags(walk), ((), (0, 1)))
        walk = Walk("01", ((1, 1), (2, 2), (3, 3), (4, 4), (3, 3)), (0, 1, 3))
        self.same(length_flags(walk), ((1,), (1, 0)))
        # Two rounds, of 4 and 4 signs, begun one after the other, make a loop of 2.
        rows = ((1, 4), (2, 2), (3, 3), (0, 0), (5, 5), (6, 6), (7, 7), (4, 4))
        self.same(length_flags(Walk("01", rows, (2, 4, 5))), shortest(flags_upto(Walk("01", rows, (2, 4, 5)), 40)))

    def test_loops_of_several_lengths_together(self):
        self.same(length_flags(rounds(0, 4, 6)), ((), (0, 1, 0, 0, 0, 1, 0, 1, 0, 1, 0, 0)))
        self.same(length_flags(rounds(0, 2, 3)), ((), (0, 1, 0, 1, 1, 1)))
        lead, loop = length_flags(rounds(0, 3, 5, 7))
        self.assertEqual((lead, len(loop)), ((), 105))
        self.same(unrolled(lead, loop, 300), flags_upto(rounds(0, 3, 5, 7), 300))

    def test_many_lengths(self):
        lead, loop = length_flags(rounds(0, 26, 23))
        self.assertEqual((lead, len(loop)), ((), 598))
        self.same(unrolled(lead, loop, 1300), flags_upto(rounds(0, 26, 23), 1300))
        # The lot of the length 599 is that of the length 1: with one sign more ahead it comes too late.
        self.raises(TooMany, {"what": "length"}, length_flags, rounds(1, 26, 23))
        self.raises(TooMany, {"what": "length"}, length_flags, rounds(0, 24, 25))
        self.raises(TooMany, {"what": "length"}, length_flags, rounds(0, 7, 11, 13, 17))
        # The flags come again at once, but no lot does: a third sign leads to a goal that stays one.
        rows = [[*row, row[0]] for row in rounds(0, 24, 25).rows]
        rows.append([len(rows)] * 3)
        rows[0][2] = len(rows) - 1
        walk = Walk("012", rows, (*rounds(0, 24, 25).goals, len(rows) - 1))
        self.assertEqual(flags_upto(walk, 100), [0] + [1] * 100)
        self.raises(TooMany, {"what": "length"}, length_flags, walk)

    def test_only_live_standings_count(self):
        # What is not live goes round for ever, but leads to no goal.
        rows = ((1, 2), (1, 1), (3, 3), (4, 4), (2, 2))
        self.same(length_flags(Walk("01", rows, (1,))), ((0,), (1,)))
        self.same(length_flags(Walk("01", rows, (0,))), ((1,), (0,)))

    def test_against_a_slow_look(self):
        dice = random.Random(61)
        for _ in range(150):
            signs = dice.choice(["01", "012"])
            walk = Walk(signs, *some_walk(dice, signs, dice.randrange(1, 6)))
            lead, loop = length_flags(walk)
            self.same(unrolled(lead, loop, 200), flags_upto(walk, 200))
            self.same((lead, loop), shortest(flags_upto(walk, 80)))
