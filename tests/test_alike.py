"""Promises [10] and [11]: tables, how they are judged, and walks that are alike."""

import random

from brute import papers_upto
from handcarried.alike import Alike, judge_alike
from handcarried.errors import TooMany, Unlike
from handcarried.rules import rule_walk
from handcarried.walks import Walk
from helpers import ODD_THINGS, Case, counter
from test_walks import some_walk


def entries_of(first, second, frame):
    """The table, as the document tells it."""
    live = [at for at in range(len(frame)) if frame.least_paper(at) is not None]
    found = [(0, 0, 0)] if 0 in live else []
    for one, other, at in found:
        for behind in zip(first[one], second[other], frame[at]):
            if behind not in found and behind[2] in live:
                found.append(behind)
    return tuple(sorted(found))


class TestAlike(Case):
    def test_alike(self):
        first, second = counter("01", 3), counter("01", 3)
        told = Alike(first, second)
        self.assertIs(bool(told), True)
        self.assertIsNone(told.parting)
        self.same(told.table, ((0, 0, 0), (1, 1, 0), (2, 2, 0)))
        self.same(list(told), list(told.table))

    def test_parted(self):
        told = Alike(counter("01", 2), counter("01", 4))
        self.assertIs(bool(told), False)
        self.assertEqual(told.parting, "00")
        self.same(told.table, ((0, 0, 0), (0, 2, 0), (1, 1, 0), (1, 3, 0)))
        self.assertEqual(Alike(Walk.everything("01"), ~Walk.everything("01")).parting, "")

    def test_the_least_of_equally_long_papers(self):
        first = rule_walk("012", ("sum", 3, (1,), 0))
        second = rule_walk("012", ("sum", 3, (1, 2), 0))
        self.assertEqual(Alike(first, second).parting, "11")
        self.assertEqual(Alike(second, first).parting, "11")

    def test_within_a_frame(self):
        frame = ~counter("01", 2)
        told = Alike(counter("01", 2), ~Walk.everything("01"), frame=frame)
        self.assertIs(bool(told), True)
        self.same(told.table, ((0, 0, 0), (1, 0, 1)))
        self.assertEqual(Alike(counter("01", 2), ~Walk.everything("01"), frame=~frame).parting, "")
        self.assertEqual(Alike(counter("01", 3), ~Walk.everything("01"), frame=frame).parting, "000")

    def test_a_frame_with_a_standing_that_is_not_live(self):
        # The frame has just the papers 0 and 01.
        frame = Walk("01", ((1, 3), (3, 2), (3, 3), (3, 3)), (1, 2))
        self.assertEqual(frame.live, (0, 1, 3))
        told = Alike(counter("01", 5), counter("01", 7), frame=frame)
        self.same(told.table, ((0, 0, 0), (1, 1, 1), (2, 2, 3)))
        self.assertIs(bool(told), True)
        told = Alike(counter("01", 5), counter("01", 7, (2,)), frame=frame)
        self.assertEqual(told.parting, "01")

    def test_a_frame_without_right_papers(self):
        none = ~Walk.everything("01")
        told = Alike(Walk.everything("01"), none, frame=none)
        self.assertIs(bool(told), True)
        self.same((told.table, told.parting), ((), None))
        self.assertIsNone(judge_alike(Walk.everything("01"), none, (), frame=none))
        self.assertEqual(judge_alike(Walk.everything("01"), none, ((0, 0, 0),), frame=none), 0)
        self.assertEqual(judge_alike(Walk.everything("01"), none, "", frame=none), -1)

    def test_against_a_slow_look(self):
        dice = random.Random(31)
        papers = papers_upto("01", 8)
        for _ in range(150):
            first, second, third = [Walk("01", *some_walk(dice, "01", dice.randrange(1, 4))) for _ in range(3)]
            frame = dice.choice([None, third])
            within = Walk.everything("01") if frame is None else frame
            told = Alike(first, second, frame=frame)
            parting = [paper for paper in papers if within.right(paper) and first.right(paper) != second.right(paper)]
            self.assertEqual(told.parting, parting[0] if parting else None)
            self.assertIs(bool(told), not parting)
            self.same(told.table, entries_of(first, second, within))
            self.assertEqual(judge_alike(first, second, told.table, frame=frame) is None, not parting)

    def test_two_thousand_entries(self):
        # Counters of 125 and 16 come together again behind 2,000 signs, those of 69 and 29 behind 2,001.
        told = Alike(counter("01", 125), counter("01", 16))
        self.assertEqual(len(told.table), 2000)
        self.assertEqual(told.parting, "0" * 16)
        self.raises(TooMany, {"what": "entry"}, Alike, counter("01", 69), counter("01", 29))
        everything = Walk.everything("01")
        self.assertEqual(len(Alike(everything, counter("01", 125), frame=counter("01", 16)).table), 2000)
        self.raises(TooMany, {"what": "entry"}, Alike, everything, everything - counter("01", 69),
                    frame=counter("01", 29))

    def test_a_long_parting_paper(self):
        told = Alike(counter("01", 125), Walk.everything("01"), frame=counter("01", 16, (15,)) & counter("01", 5, (1,)))
        self.assertEqual(told.parting, "0" * 31)
        never = ~Walk.everything("01")
        told = Alike(counter("01", 125, (124,)), never, frame=counter("01", 16, (15,)))
        self.assertEqual(told.parting, "0" * 1999)

    def test_unlike_signs(self):
        one, other = Walk.everything("01"), Walk.everything("02")
        large, more = counter("01", 149), counter("01", 150)
        self.raises(Unlike, {"what": "signs"}, Alike, one, other)
        self.raises(Unlike, {"what": "signs"}, Alike, one, one, frame=other)
        self.raises(Unlike, {"what": "signs"}, Alike, large, more, frame=other)
        self.raises(Unlike, {"what": "signs"}, judge_alike, one, other, None)
        self.raises(Unlike, {"what": "signs"}, judge_alike, one, one, 5, frame=other)

    def test_the_table_belongs_to_the_caller(self):
        told = Alike(counter("01", 2), counter("01", 4))
        first = list(told.table)
        first.clear()
        self.assertEqual(len(told.table), 4)
        self.assertEqual(list(told), list(told))


class TestJudged(Case):
    def setUp(self):
        self.first = counter("01", 3)
        self.second = counter("01", 3)
        self.table = ((0, 0, 0), (1, 1, 0), (2, 2, 0))

    def judged(self, table):
        return judge_alike(self.first, self.second, table)

    def test_right_tables(self):
        table = self.table
        self.assertIsNone(self.judged(table))
        self.assertIsNone(self.judged(table[::-1]))
        self.assertIsNone(self.judged(table * 3))
        self.assertIsNone(self.judged([list(entry) for entry in table]))
        self.assertIsNone(self.judged((table[1], list(table[2]), table[0], table[2])))

    def test_entries_that_were_never_reached(self):
        first = counter("01", 4)
        frame = counter("01", 2, (1,))
        only = ~Walk.everything("01")
        table = Alike(first, only, frame=frame).table
        self.assertEqual(table, ((0, 0, 0), (1, 0, 1), (2, 0, 0), (3, 0, 1)))
        self.assertIsNone(judge_alike(first, only, table, frame=frame))
        # A round that the beginning never comes to: in the last of these entries it is bad all the same.
        more = ((1, 0, 0), (2, 0, 1), (3, 0, 0), (0, 0, 1))
        self.assertEqual(judge_alike(first, only, table + more, frame=frame), 7)
        # Here no entry of such a round is bad.
        halves = counter("01", 4, (0, 1))
        rest = counter("01", 4, (1, 2))
        frame = counter("01", 2, (1,))
        table = Alike(halves, rest, frame=frame).table
        self.assertEqual(table, ((0, 0, 0), (1, 1, 1), (2, 2, 0), (3, 3, 1)))
        more = ((3, 1, 0), (0, 2, 1), (1, 3, 0), (2, 0, 1))
        self.assertEqual(judge_alike(halves, rest, table + more, frame=frame), None)

    def test_no_table(self):
        for thing in (None, True, 5, "", "000", {}, set(), {(0, 0, 0): 1}, len, self.first):
            self.assertEqual(self.judged(thing), -1)

    def test_without_the_beginning(self):
        for table in ((), [], self.table[1:], ((1, 1, 0), 5), ((False, 0, 0), *self.table[1:]),
                      (("0", 0, 0), *self.table[1:]), ((0, 0), *self.table[1:]), ((0, 0, 0, 0), *self.table[1:]),
                      ((0.0, 0, 0), *self.table[1:]), (0, 0, 0), ((self.table[0],), *self.table[1:])):
            self.assertEqual(self.judged(table), -1, table)

    def test_entries_without_their_form(self):
        for entry in (*ODD_THINGS, "000", (0, 0), (0, 0, 0, 0), (3, 0, 0), (0, 3, 0), (0, 0, 1), (-1, 0, 0),
                      (0, -1, 0), (0, 0, -1), (True, 1, 0), (1, True, 0), (0, 0, False), ("0", 0, 0), (0, 0, None),
                      (3, 1, 0), (1, 3, 0), (3, 3, 0), (-1, 1, 0), (1, -2, 0), (-2, -2, 0), (1, 1, 2), (2, 2, -1),
                      ((0,), 0, 0), (0, 0, ()), {0: 0, 1: 1, 2: 2}, (1.0, 1, 0), ((0, 0, 0),), self.first):
            self.assertEqual(self.judged((*self.table, entry)), 3, entry)
            self.assertEqual(self.judged((self.table[0], entry, *self.table[1:])), 1, entry)
            self.assertEqual(self.judged([entry, *self.table]), 0, entry)

    def test_entries_that_are_left_out(self):
        frame = Walk("01", ((1, 2), (2, 2), (2, 2)), (1,))
        self.assertEqual(frame.live, (0, 1))
        table = Alike(self.first, self.second, frame=frame).table
        self.assertEqual(table, ((0, 0, 0), (1, 1, 1)))
        self.assertIsNone(judge_alike(self.first, self.second, table, frame=frame))
        self.assertEqual(judge_alike(self.first, self.second, (*table, (2, 2, 2)), frame=frame), 2)

    def test_bad_entries(self):
        self.assertEqual(self.judged((*self.table, (1, 0, 0), (2, 1, 0), (0, 2, 0))), 3)
        self.assertEqual(self.judged((*self.table, (2, 1, 0), (0, 2, 0), (1, 0, 0))), 4)
        second = counter("01", 3, (1,))
        self.assertEqual(judge_alike(self.first, second, self.table), 0)
        told = Alike(self.first, counter("01", 6))
        self.assertEqual(judge_alike(self.first, counter("01", 6), told.table), told.table.index((0, 3, 0)))

    def test_steps_that_lead_out_of_the_table(self):
        self.assertEqual(self.judged(self.table[:1]), 0)
        self.assertEqual(self.judged(self.table[:2]), 1)
        self.assertEqual(self.judged((self.table[0], self.table[2])), 0)
        # What is only nearly the entry does not help.
        self.assertEqual(self.judged((self.table[0], self.table[1], (2, 2, False))), 1)
        self.assertEqual(self.judged((self.table[0], (True, True, 0), self.table[2])), 0)

    def test_the_first_wrong_entry(self):
        self.assertEqual(self.judged((5, *self.table, 6)), 0)
        self.assertEqual(self.judged((*self.table, 6, 5)), 3)
        self.assertEqual(self.judged((self.table[2], self.table[1], self.table[0], (1, 0, 0), 5)), 3)
        self.assertEqual(self.judged((self.table[0], 5)), 0)

    def test_large_tables(self):
        walk, frame = counter("01", 149), counter("01", 150)
        table = tuple((at % 149, at % 149, at % 150) for at in range(149 * 150))
        self.assertIsNone(judge_alike(walk, walk, table, frame=frame))
        self.assertEqual(judge_alike(walk, walk, table[:-1], frame=frame), len(table) - 2)
        self.raises(TooMany, {"what": "entry"}, Alike, walk, walk, frame=frame)
        self.assertIsNone(self.judged(self.table * 1000))
        self.assertEqual(self.judged((*self.table * 1000, 5)), 3000)

    def test_deep_things(self):
        deep = 0
        for _ in range(60):
            deep = [deep, deep]
        self.assertEqual(self.judged((*self.table, deep)), 3)
        self.assertEqual(self.judged((*self.table, (0, 0, deep))), 3)
        self.assertEqual(self.judged(deep), -1)

    def test_what_is_passed_stays(self):
        table = [[0, 0, 0], [1, 1, 0], (2, 2, 0), [5]]
        self.judged(table)
        self.assertEqual(table, [[0, 0, 0], [1, 1, 0], (2, 2, 0), [5]])
