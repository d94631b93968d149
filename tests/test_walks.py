"""Promise [4]: walks."""

import random

from brute import least_of, papers_upto
from handcarried.errors import BadPaper, BadSigns, BadWalk, TooMany, Unlike
from handcarried.walks import Walk
from helpers import ODD_THINGS, Case, counter


def some_walk(dice, signs, many):
    rows = [[dice.randrange(many) for _ in signs] for _ in range(many)]
    return rows, tuple(at for at in range(many) if dice.random() < 0.4)


class TestForm(Case):
    def test_signs_go_ahead_of_rows_and_rows_ahead_of_goals(self):
        self.raises(BadSigns, {"signs": "10"}, Walk, "10", (), (5,))
        self.raises(BadWalk, {"word": "rows"}, Walk, "01", (), (5,))
        self.raises(BadWalk, {"word": "goals"}, Walk, "01", ((0, 0),), (5,))

    def test_bad_rows(self):
        for rows in ((), ((0,),), ((0, 0, 0),), ((0, 1),), ((0, -1),), ((0, True),), ((False, 0),), ((0, None),),
                     ((0, "0"),), ("00",), ((0, 0), (0, 2)), ((0, 0), 0), ((0, 0), "01"), (((0, 0), (0, 0)),),
                     "00", 1, None, {0: (0, 0)}, ((0, 0.0),), ((0, 0), ())):
            self.raises(BadWalk, {"word": "rows"}, Walk, "01", rows, ())

    def test_bad_goals(self):
        rows = ((1, 2), (2, 0), (0, 1))
        for goals in ((0, 0), (1, 0), (3,), (-1,), (True,), (0, True), (False,), ("0",), (None,), "0", 0, None, {0: 1},
                      (0, 1, 2, 3), ((0,),), (0.0,)):
            self.raises(BadWalk, {"word": "goals"}, Walk, "01", rows, goals)

    def test_a_hundred_and_fifty_rows(self):
        self.assertEqual(len(counter("01", 150)), 150)
        self.raises(BadWalk, {"word": "rows"}, counter, "01", 151)
        rows = tuple((0, 0) for _ in range(151))
        self.raises(BadWalk, {"word": "rows"}, Walk, "01", rows, ())
        self.assertEqual(len(Walk("01", rows[:150], ())), 1)

    def test_lists_are_kept_as_tuples(self):
        rows = [[1, 0], [0, 1]]
        goals = [1]
        walk = Walk("01", rows, goals)
        self.same((walk.rows, walk.goals), (((1, 0), (0, 1)), (1,)))
        rows[0][0] = 0
        rows.append([0, 0])
        goals.append(7)
        self.same((walk.rows, walk.goals), (((1, 0), (0, 1)), (1,)))
        self.assertEqual((rows, goals), ([[0, 0], [0, 1], [0, 0]], [1, 7]))


class TestLeastForm(Case):
    def test_standings_that_no_paper_leads_to_are_left_out(self):
        walk = Walk("01", ((0, 2), (1, 1), (2, 0)), (1, 2))
        self.same((walk.rows, walk.goals), (((0, 1), (1, 0)), (1,)))

    def test_standings_from_which_the_same_papers_are_right_are_one(self):
        walk = Walk("01", ((1, 2), (3, 3), (4, 4), (3, 4), (4, 3)), (3, 4))
        self.same((walk.rows, walk.goals), (((1, 1), (2, 2), (2, 2)), (2,)))

    def test_standings_are_numbered_as_they_are_found(self):
        walk = Walk("01", ((2, 1), (2, 2), (0, 3), (3, 3)), (3,))
        self.same((walk.rows, walk.goals), (((1, 2), (0, 3), (1, 1), (3, 3)), (3,)))

    def test_without_goals_and_with_all_goals(self):
        self.same((Walk("01", ((1, 1), (0, 1)), ()).rows, Walk("01", ((1, 1), (0, 1)), ()).goals), (((0, 0),), ()))
        self.same((Walk("01", ((1, 1), (0, 1)), (0, 1)).rows, Walk("01", ((1, 1), (0, 1)), (0, 1)).goals),
                  (((0, 0),), (0,)))

    def test_against_a_slow_look(self):
        dice = random.Random(1)
        for _ in range(200):
            signs = dice.choice(["01", "012"])
            rows, goals = some_walk(dice, signs, dice.randrange(1, 9))
            walk = Walk(signs, rows, goals)
            self.same((walk.rows, walk.goals), least_of(len(signs), rows, goals))

    def test_equal_exactly_with_the_same_right_papers(self):
        dice = random.Random(2)
        papers = papers_upto("01", 7)
        walks = [Walk("01", *some_walk(dice, "01", 3)) for _ in range(60)]
        for first in walks:
            for second in walks:
                alike = all((paper in first) == (paper in second) for paper in papers)
                self.assertEqual(first == second, alike)
                self.assertEqual(first != second, not alike)


class TestAsking(Case):
    def setUp(self):
        # The last one of these rows is not live; in the least form it is the standing 2.
        self.walk = Walk("01", ((1, 3), (1, 2), (2, 3), (3, 3)), (2,))

    def test_standing(self):
        walk = self.walk
        self.assertEqual((walk.standing(""), walk.standing("0"), walk.standing("001")), (0, 1, walk.standing("01")))
        for start in range(len(walk)):
            self.assertEqual(walk.standing("", start), start)
            self.assertEqual(walk.standing("1", start), walk.rows[start][1])
            self.assertEqual(walk.standing("10", start=start), walk.rows[walk.rows[start][1]][0])
        self.raises(BadPaper, {"paper": "2"}, walk.standing, "2")
        self.raises(BadPaper, {"paper": "0" * 61}, walk.standing, "0" * 61, 1)

    def test_right(self):
        self.assertIs(self.walk.right("001"), True)
        self.assertIs(self.walk.right("010"), True)
        self.assertIs(self.walk.right("00"), False)
        self.assertIs(self.walk.right("1"), False)
        self.assertIs(self.walk.right("0" * 59 + "1"), True)
        paper = ["0", "1"]
        self.raises(BadPaper, {"paper": paper}, self.walk.right, paper)

    def test_live(self):
        self.same((self.walk.rows, self.walk.goals), (((1, 2), (1, 3), (2, 2), (3, 2)), (3,)))
        self.same(self.walk.live, (0, 1, 3))
        self.same(Walk("01", ((0, 0),), ()).live, ())
        self.same(Walk("01", ((0, 0),), (0,)).live, (0,))
        self.same(counter("01", 5).live, (0, 1, 2, 3, 4))

    def test_live_and_least_paper_from_each_standing(self):
        dice = random.Random(4)
        papers = papers_upto("012", 5)
        for _ in range(60):
            walk = Walk("012", *some_walk(dice, "012", 5))
            for start in range(len(walk)):
                led = [paper for paper in papers if walk.standing(paper, start) in walk.goals]
                self.assertEqual(walk.least_paper(start), led[0] if led else None)
                self.assertEqual(start in walk.live, bool(led))
            self.assertEqual(walk.least_paper(), walk.least_paper(0))
            self.assertGreaterEqual(len(walk.live), len(walk) - 1)

    def test_a_long_least_paper(self):
        walk = counter("01", 150, (149,))
        self.assertEqual(walk.least_paper(), "0" * 149)
        self.assertEqual(walk.least_paper(start=148), "0")
        self.assertEqual(walk.least_paper(149), "")

    def test_in(self):
        self.assertIs("001" in self.walk, True)
        self.assertIs("1" in self.walk, False)
        for thing in (*ODD_THINGS, "2", "0" * 59 + "11", "0" * 60 + "1", ("0", "1"), ["01"]):
            self.assertIs(thing in self.walk, thing in ("01",), thing)
        self.assertIn("0" * 59 + "1", self.walk)
        self.assertNotIn("0" * 61, Walk.everything("01"))
        self.assertIn("0" * 60, Walk.everything("01"))

    def test_rows(self):
        walk = self.walk
        self.assertEqual(len(walk), 4)
        self.same([walk[k] for k in range(4)], list(walk.rows))
        self.same(list(walk), list(walk.rows))
        self.assertEqual(walk.signs, "01")

    def test_bool(self):
        self.assertIs(bool(self.walk), True)
        self.assertIs(bool(Walk("01", ((0, 0),), ())), False)
        self.assertIs(bool(Walk("01", ((0, 0), (1, 1)), (1,))), False)
        self.assertIs(bool(Walk.everything("01")), True)

    def test_equal(self):
        rows, goals = self.walk.rows, self.walk.goals
        self.assertTrue(self.walk == Walk("01", rows, goals))
        self.assertFalse(self.walk == Walk("02", rows, goals))
        self.assertFalse(self.walk == ~self.walk)
        for thing in (*ODD_THINGS, rows, ("01", rows, goals)):
            self.assertIs(self.walk == thing, False)
            self.assertIs(self.walk != thing, True)

    def test_everything(self):
        walk = Walk.everything("012")
        self.same((walk.signs, walk.rows, walk.goals), ("012", ((0, 0, 0),), (0,)))
        self.raises(BadSigns, {"signs": "210"}, Walk.everything, "210")

    def test_asked_again(self):
        first = [self.walk.live, self.walk.right("001"), self.walk.least_paper(1), self.walk.standing("0")]
        Walk("01", ((0, 1), (1, 1)), (1,)).right("1")
        self.assertEqual(first, [self.walk.live, self.walk.right("001"), self.walk.least_paper(1),
                                 self.walk.standing("0")])


class TestTogether(Case):
    def test_against_their_papers(self):
        dice = random.Random(5)
        papers = papers_upto("01", 6)
        for _ in range(60):
            a = Walk("01", *some_walk(dice, "01", 5))
            b = Walk("01", *some_walk(dice, "01", 4))
            told = [a & b, a | b, a - b, ~a]
            for paper in papers:
                one, other = a.right(paper), b.right(paper)
                self.assertEqual([walk.right(paper) for walk in told],
                                 [one and other, one or other, one and not other, not one])
            for walk in told:
                self.assertEqual((walk.rows, walk.goals), least_of(2, walk.rows, walk.goals))
            self.assertTrue(~~a == a and a - b == a & ~b and a | b == ~(~a & ~b))

    def test_the_walks_stay(self):
        a, b = counter("01", 3), counter("01", 4)
        before = (a.rows, a.goals, b.rows, b.goals)
        a & b, a | b, a - b, ~a
        self.assertEqual(before, (a.rows, a.goals, b.rows, b.goals))

    def test_unlike_signs(self):
        a, b = Walk.everything("01"), Walk.everything("02")
        for call in (lambda: a & b, lambda: a | b, lambda: a - b):
            self.raises(Unlike, {"what": "signs"}, call)
        # Unlike goes ahead of what the walk would be.
        c, d = counter("01", 149), counter("012", 150)
        self.raises(Unlike, {"what": "signs"}, lambda: c & d)

    def test_too_many_standings(self):
        self.assertEqual(len(counter("01", 10) & counter("01", 15)), 30)
        self.assertEqual(len(counter("01", 75) & counter("01", 50)), 150)
        self.assertEqual(len(counter("01", 25) & counter("01", 6)), 150)
        self.raises(TooMany, {"what": "standing"}, lambda: counter("01", 8) & counter("01", 19))
        for call in (lambda: counter("01", 149) & counter("01", 150), lambda: counter("01", 149) | counter("01", 150),
                     lambda: counter("01", 149) - counter("01", 150)):
            self.raises(TooMany, {"what": "standing"}, call)

    def test_a_hundred_and_fifty_and_one_more(self):
        def exactly(many):
            """The walk of the papers of exactly so many signs."""
            return Walk("01", [(at + 1, at + 1) for at in range(many + 1)] + [(many + 1, many + 1)], (many,))

        # Up to the one length that is out of the round there is a standing for each length.
        self.assertEqual(len(counter("01", 140) | exactly(9)), 150)
        self.assertEqual(len(~counter("01", 140) & ~exactly(9)), 150)
        self.assertEqual(len(~counter("01", 140) - exactly(9)), 150)
        for call in (lambda: counter("01", 140) | exactly(10), lambda: ~counter("01", 140) & ~exactly(10),
                     lambda: ~counter("01", 140) - exactly(10)):
            self.raises(TooMany, {"what": "standing"}, call)
        self.assertEqual(len(~exactly(148)), 150)

    def test_many_standings_on_the_way(self):
        # The pairs of standings are 22,350; no paper is right by both.
        a = Walk("01", [row for at in range(75) for row in (((at + 1) % 75 * 2, (at + 1) % 75 * 2 + 1),) * 2], (1,))
        b = Walk("01", [row for at in range(74) for row in (((at + 1) % 74 * 2, (at + 1) % 74 * 2 + 1),) * 2], (0,))
        self.assertGreater(len(a) * len(b), 5000)
        self.assertEqual(a & b, Walk("01", ((0, 0),), ()))
        self.assertEqual(a - b, a)
