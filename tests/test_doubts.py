"""Promises [10] and [29]: points where a way is in doubt, their tables and how they are judged."""

import random

from brute import key_of, papers_upto, slow_judge, slow_table
from brute_ways import SlowDoubts
from handcarried.doubts import Doubts, judge_doubts, text_between, turned
from handcarried.errors import BadPoint, TooMany, Unfit
from handcarried.hands import Hand
from handcarried.papers import lag_on
from handcarried.series import Series
from handcarried.sights import suspects
from helpers import ODD_THINGS, Case, example_hand, example_series
from judged import odd_entries
from some_ways import ALL, ANY, EVEN, NONE, SPELL, STILL, SWAP, TURN, little_hand, some_way, way_of
from test_crossings import exactly, rounds
from test_trust import spoilt_deep

PLAIN = ("hand", "hand", "desk", "echo")


class TestDoubts(Case):
    def check(self, way, point, most=1):
        """What is told of a point, held against the words of the document."""
        told = Doubts(way, point, most=most)
        slow = SlowDoubts(way, point, most)
        self.same(told.table, slow_table(slow))
        self.assertIs(bool(told), not any(slow.bad(entry) for entry in told.table))
        self.assertIs(bool(told), told.least is None)
        self.same(judge_doubts(way, point, most, told.table), slow_judge(slow, told.table))
        if told.least is not None:
            paper, first, second = told.least
            rows = suspects(way, self.sight(way, point, paper), most=most)
            self.same((rows[0][1], rows[1][1]), (first, second))
        for paper in papers_upto("01", 2):
            # Where no point is in doubt, a sight blames one lot alone.
            if told.least is None or key_of(paper) < key_of(told.least[0]):
                self.assertLess(len(suspects(way, self.sight(way, point, paper), most=most)), 2)
        return told

    def sight(self, way, point, paper):
        return ("arrived", paper) if point == len(way) else ("stopped", point, paper)

    def test_the_end(self):
        told = self.check(way_of(ALL), 0, 6)
        self.same(told.table, (((0, (), 0, ()), (0, (), 0, ()), "+0"), ((0, (), 0, ()), (0, (), 0, ()), "+1"),
                               ((0, (), 0, ()), (0, (), 0, ()), "-0"), ((0, (), 0, ()), (0, (), 0, ()), "-1"),
                               ((0, (), 0, ()), (0, (), 0, ()), "=")))
        self.assertTrue(told)
        told = self.check(way_of(exactly("01", "01", "00"), ("hand", SWAP), ("hand", TURN)), 2)
        self.same(told.least, ("00", (), (1,)))
        # With a dearer hand alone the number is the first suspect, then the hand.
        self.same(self.check(way_of(exactly("01", "01"), ("hand", SWAP), ("hand", Hand(
            "some", "01", (("a", 1, (("01", "10"),)),)))), 2).least, ("10", (0,), (1,)))
        self.same(self.check(way_of(NONE, ("hand", TURN)), 1).table, ())

    def test_a_desk(self):
        way = way_of(EVEN, ("hand", TURN), ("desk", EVEN), ("hand", SWAP), ("desk", exactly("01", "00", "01")))
        # What this desk stops the hand ahead of it did.
        self.assertTrue(self.check(way, 1))
        self.assertTrue(self.check(way, 1, 2))
        self.same(Doubts(way, 1).table, Doubts(way, 1, most=1).table)
        told = self.check(way, 3)
        self.same(told.least, ("011", (), (2,)))
        self.assertTrue(all(len(trail[1]) == 4 for entry in told.table for trail in entry[:2]))
        self.assertIn((0, ("", 0, "", 0), 0, ()), [entry[0] for entry in told.table])
        # A standing of the desk at the point need not be live.
        few = exactly("01", "0")
        told = self.check(way_of(EVEN, ("hand", TURN), ("desk", few)), 1)
        dead = [at for at in range(len(few.walk)) if at not in few.walk.live][0]
        self.assertTrue(any(entry[0][1][-1] == dead for entry in told.table))

    def test_echoes(self):
        way = way_of(exactly("01", "0"), ("hand", TURN), ("echo", TURN, 0))
        self.assertTrue(self.check(way, 2))
        self.same(self.check(way, 2, 2).least, None)
        way = way_of(exactly("01", "0", "1"), ("hand", TURN), ("echo", TURN, 0))
        self.same(self.check(way, 2, 2).least, ("0", (), (0, 1)))
        self.same(self.check(way_of(ALL, ("echo", SWAP, 0), ("hand", TURN)), 2).least, ("0", (), (1,)))
        self.assertTrue(self.check(way_of(ALL, ("echo", SWAP, 0)), 1))

    def test_the_first_two_suspects(self):
        hand = Hand("some", "01", (("a", 2, (("0", "1"),)),))
        way = way_of(exactly("01", "0"), ("hand", hand), ("hand", TURN), ("hand", hand))
        self.same(self.check(way, 3, 6).least, ("0", (), (0, 1)))
        way = way_of(exactly("01", "0"), ("hand", hand), ("hand", STILL), ("hand", hand))
        self.same(self.check(way, 3, 6).least, ("1", (0,), (2,)))

    def test_least_papers(self):
        lost = Hand("lost", "01", (("a", 1, (("x", ""),)),))
        way = way_of(exactly("01", "01", "10"), ("hand", lost), ("hand", lost))
        self.same(self.check(way, 2).least, ("0", (0,), (1,)))
        # The first trail need not be the one that costs less.
        way = way_of(exactly("01", "0", "1"), ("hand", TURN))
        self.same(self.check(way, 1).least, ("0", (), (0,)))

    def test_what_the_first_story_writes(self):
        for over, text in (("=", ""), ("=", "01"), ("-0120", ""), ("-0120", "0"), ("-0120", "012"), ("-0120", "0120"),
                           ("-01", "0122"), ("-01", "012")):
            further = lag_on(over, text, "")
            self.same(text_between(over, further), text)
            self.same(lag_on(turned(over), "", text), turned(further))
        for one, other in (("=", "="), ("#", "#"), ("+01", "-01"), ("-2", "+2")):
            self.same((turned(one), turned(other)), (other, one))

    def test_papers_of_more_than_sixty_signs(self):
        form = (*[("run", name, "0", 12, 12) for name in "abcde"], ("run", "f", "0", 11, 12))
        way = way_of(Series("zeros", "01", form, ANY), ("hand", Hand("lost", "01", (("a", 1, (("0", ""),)),))))
        told = Doubts(way, 1)
        self.same(told.least, ("0" * 71, (), (0,)))
        # Whoever would look for its suspects among papers of sixty signs would find none.
        self.assertEqual(len(told.least[0]), 71)

    def test_the_order_of_the_errors(self):
        way = way_of(ALL, ("hand", TURN), ("desk", EVEN), ("clerk", ALL), ("desk", EVEN), SPELL)
        for point in (*[thing for thing in ODD_THINGS if thing != 5 or thing is True], 0, 2, 4, 6, -1, True, "1", 1.0,
                      (1,), None, 10 ** 39):
            self.raises(BadPoint, {"point": point}, Doubts, way, point)
            self.raises(BadPoint, {"point": point}, judge_doubts, way, point, 1, None)
        last = way_of(ALL, ("desk", EVEN), ("desk", EVEN))
        for point in (-1, -2, 3):
            self.raises(BadPoint, {"point": point}, Doubts, last, point)
        for point in (3, 5):
            self.raises(Unfit, {"what": "station"}, Doubts, way, point)
            self.raises(Unfit, {"what": "station"}, judge_doubts, way, point, 1, None)
        self.assertFalse(Doubts(way, 1))
        self.raises(Unfit, {"what": "station"}, Doubts, way_of(ALL, SPELL), 1)
        self.raises(Unfit, {"what": "station"}, Doubts, way_of(ALL, SPELL, ("desk", ALL)), 1)
        self.raises(BadPoint, {"point": True}, Doubts, way_of(ALL, ("desk", EVEN)), True)
        self.raises(BadPoint, {"point": False}, Doubts, way_of(ALL), False)

    def test_two_thousand_entries(self):
        way = way_of(rounds(40), ("echo", Hand("some", "01", (("a", 3, (("x", "1y1"),)),)), 0), ("desk", ALL))
        for point in (1, 2):
            told = Doubts(way, point, most=3)
            self.assertEqual(len(told.table), 2000)
            self.same(told.table, slow_table(SlowDoubts(way, point, 3)))
        way = way_of(rounds(29), ("echo", Hand("some", "01", (("a", 3, (("yy", ""), ("y0x", ""))),)), 0))
        self.assertEqual(len(slow_table(SlowDoubts(way, 1, 2))), 2001)
        self.raises(TooMany, {"what": "entry"}, Doubts, way, 1, most=2)

    def test_the_house(self):
        series, hand = example_series(), example_hand()
        self.raises(TooMany, {"what": "entry"}, Doubts, way_of(series, ("hand", hand), ("desk", series), ("hand", hand)), 3)

    def test_against_slow_looks(self):
        dice = random.Random(269)
        seen = []
        while len(seen) < 60:
            series = dice.choice([EVEN, ALL, exactly("01", "0", "11", "01"), rounds(2)])
            stations = [dice.choice([("hand", TURN), ("hand", SWAP), ("echo", TURN, 0), ("desk", EVEN), ("desk", ALL),
                                     ("hand", little_hand(dice, 2))]) for _ in range(dice.randrange(1, 4))]
            way, most = way_of(series, *stations), dice.randrange(1, 3)
            points = [k for k, station in enumerate(way) if station[0] == "desk"] + [len(way)]
            point = dice.choice(points)
            if slow_table(SlowDoubts(way, point, most), 60) is not None:
                seen.append(bool(self.check(way, point, most)))
        self.assertGreater(seen.count(True), 5)
        self.assertGreater(seen.count(False), 5)


class TestJudged(Case):
    def setUp(self):
        self.way = way_of(EVEN, ("hand", SWAP), ("echo", STILL, 0), ("desk", rounds(2)))
        self.table = Doubts(self.way, 2, most=0).table
        self.slow = SlowDoubts(self.way, 2, 0)

    def judged(self, table):
        told = judge_doubts(self.way, 2, 0, table)
        self.same(told, slow_judge(self.slow, table))
        return told

    def test_right_tables(self):
        def listed(thing):
            return [listed(part) for part in thing] if thing.__class__ is tuple else thing

        self.assertGreater(len(self.table), 20)
        for told in (self.table, self.table[::-1], self.table * 2, listed(self.table)):
            self.assertIsNone(self.judged(told))

    def test_no_table(self):
        for thing in (None, True, 5, "", {}, set(), len):
            self.assertEqual(self.judged(thing), -1)
        rest = tuple(entry for entry in self.table if entry != self.slow.beginning)
        for table in ((), rest, self.slow.beginning):
            self.assertEqual(self.judged(table), -1)
        self.assertIsNone(self.judged((*rest, self.slow.beginning)))

    def test_entries_without_their_form(self):
        many = len(self.table)
        for entry in odd_entries(self.slow.beginning):
            self.assertEqual(self.judged((*self.table, entry)), many, entry)
        one, other, over = self.table[7]
        for thing in odd_entries(one):
            self.judged((*self.table, (thing, other, over)))
            self.judged((*self.table, (one, thing, over)))
        for states in ((), one[1][:2], (*one[1], 0), (0, *one[1][1:]), ("", "", 0), ("", ("", "="), True), None, "",
                       ("2", ("", "="), 0), ("", ("0", "="), 0), ("", ("", "#"), 0), ("", ("", "="), 2)):
            self.assertEqual(self.judged((*self.table, ((one[0], states, 0, ()), other, over))), many)
        for lot in ((2,), (-1,), (0, 0), (1, 0), (True,), (False,), None, "", 0, ("0",), (0, 1, 2), ((0,),)):
            self.assertEqual(self.judged((*self.table, ((*one[:3], lot), other, over))), many)
            self.assertEqual(self.judged((*self.table, (one, (*other[:3], lot), over))), many)

    def test_lots_of_other_numbers(self):
        way = way_of(EVEN, ("hand", TURN), ("desk", EVEN))
        slow = SlowDoubts(way, 1, 1)
        table = Doubts(way, 1).table
        self.assertIsNone(judge_doubts(way, 1, 1, table))

        def with_lots(lot):
            """The entries with another lot in the place of that of the hand; no step leads out of them."""
            return tuple((*[(*trail[:3], lot if trail[3] else ()) for trail in entry[:2]], entry[2]) for entry in table)

        for lot in ((0, 5), (0, 1), (-1, 0), (False,), (0, True), (1,), ("0",), (0, 0)):
            for other in (table + with_lots(lot), with_lots(lot)):
                told = judge_doubts(way, 1, 1, other)
                self.assertIsNotNone(told)
                self.same(told, slow_judge(slow, other))
        self.assertIsNone(judge_doubts(way, 1, 1, table + with_lots([0])))

    def test_left_out_and_bad_entries(self):
        one = self.slow.beginning[0]
        many = len(self.table)
        for entry in ((one, one, "#"), ((*one[:2], 1, ()), one, "="), (one, (*one[:2], 1, ()), "="),
                      ((0, ("", ("", "#"), 0), 0, ()), one, "=")):
            self.assertEqual(self.judged((entry, *self.table)), 0)
            self.assertEqual(self.judged((*self.table, entry)), many)
        # With other lots it is bad only if the desk stops both.
        slipped = (0, ("", ("", "="), 1), 0, (0,))
        self.assertEqual(self.judged((*self.table, (slipped, (0, ("", ("", "="), 1), 0, ()), "="))), many)
        self.assertIsNotNone(self.judged((*self.table, (slipped, one, "="))))

    def test_steps_that_lead_out_of_the_table(self):
        for k in range(len(self.table)):
            self.assertIsNotNone(self.judged(self.table[:k] + self.table[k + 1:]))

    def test_against_a_slow_look(self):
        dice = random.Random(271)
        told = []
        while len(told) < 200:
            way, most = some_way(dice, 2, PLAIN), dice.randrange(2)
            point = dice.choice([k for k, station in enumerate(way) if station[0] == "desk"] + [len(way)])
            slow = SlowDoubts(way, point, most)
            table = slow_table(slow, 60)
            for _ in range(5 if table else 0):
                other = spoilt_deep(dice, table)
                told.append(judge_doubts(way, point, most, other))
                self.same(told[-1], slow_judge(slow, other))
        self.assertTrue(None in told and -1 in told and 0 in told and 2 in told)
