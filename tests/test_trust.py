"""Promises [10] and [24] to [27]: ways that are trusted, their tables, how they are judged, lies, ways that are clean."""

import random

from brute import key_of, numbers_upto, slow_judge, slow_table
from brute_ways import SlowTrust, lies_upto, stories_upto
from handcarried.errors import TooMany
from handcarried.hands import Hand
from handcarried.stories import clean_story
from handcarried.trust import CleanWay, Trust, judge_trust, lie_price
from helpers import ODD_THINGS, Case, example_hand, example_series, free_series
from judged import odd_entries
from some_ways import ALL, EVEN, LOST, NONE, SPELL, STILL, SWAP, TURN, some_way, way_of
from test_crossings import exactly, rounds


class TestTrust(Case):
    def check(self, way, most=1):
        """What is told of a way, held against the words of the document."""
        told = Trust(way, most=most)
        slow = SlowTrust(way, most)
        self.same(told.table, slow_table(slow))
        self.same(tuple(told), told.table)
        self.assertIs(bool(told), not any(slow.bad(entry) for entry in told.table))
        self.assertIs(bool(told), told.lie is None)
        self.same(lie_price(way, most=most), None if told else told.lie[0])
        self.same(judge_trust(way, most, told.table), slow_judge(slow, told.table))
        lies = lies_upto(way, numbers_upto(way.series, 3), most)
        if told.lie is None:
            self.assertEqual(lies, [])
        else:
            price, papers = told.lie
            self.assertIn((("arrived", papers[-1]), price, papers), [
                story[:3] for story in stories_upto(way, papers[0], price)])
            self.assertNotEqual(clean_story(way, papers[0])[0], ("arrived", papers[-1]))
            if lies:
                self.assertLessEqual((price, [key_of(paper) for paper in papers]),
                                     (lies[0][0], [key_of(paper) for paper in lies[0][1]]))
            if len(papers[0]) <= 3:
                self.same((price, papers), lies[0])
        return told

    def test_no_station(self):
        told = self.check(way_of(EVEN), 6)
        self.same(told.table, ((0, (), (), 0, "="), (1, (), (), 0, "=")))
        self.assertTrue(told)
        self.same(self.check(way_of(NONE)).table, ())

    def test_a_hand(self):
        told = self.check(way_of(ALL, ("hand", SWAP)))
        self.same(told.table, (
            (0, ("",), ("",), 0, "="), (0, ("",), ("",), 1, "#"), (0, ("0",), ("",), 0, "-0"),
            (0, ("0",), ("",), 1, "#"), (0, ("1",), ("",), 0, "-1"), (0, ("1",), ("",), 1, "#")))
        self.same(told.lie, (1, ("01", "10")))
        self.assertTrue(self.check(way_of(ALL, ("hand", SWAP)), 0))
        self.assertTrue(self.check(way_of(ALL, ("hand", STILL)), 6))

    def test_a_desk(self):
        told = self.check(way_of(EVEN, ("hand", TURN), ("desk", EVEN)))
        self.assertTrue(told)
        self.assertIn((1, ("", 0), ("", 1), 1, "#"), told.table)
        self.same(self.check(way_of(EVEN, ("hand", TURN), ("desk", EVEN)), 2).lie, (2, ("00", "11", "11")))
        # A desk can let by what it stops in the clean story.
        self.same(self.check(way_of(ALL, ("hand", TURN), ("desk", EVEN))).lie, (1, ("1", "0", "0")))
        # A standing in the clean story need not be live.
        few = exactly("01", "1")
        told = self.check(way_of(exactly("01", "0"), ("hand", TURN), ("desk", few)))
        self.same(told.lie, (1, ("0", "1", "1")))
        dead = [at for at in range(len(few.walk)) if at not in few.walk.live][0]
        self.assertTrue(any(entry[2][1] == dead for entry in told.table))
        self.assertFalse(any(entry[1][1] == dead for entry in told.table))
        # The beginning is left out if the desk has no numbers.
        self.same(self.check(way_of(ALL, ("hand", TURN), ("desk", NONE))).table, ())

    def test_a_clerk(self):
        # What a clerk makes of a paper that is no number is a number.
        way = way_of(EVEN, ("hand", TURN), ("clerk", EVEN), ("desk", EVEN))
        told = self.check(way)
        self.same(told.lie, (1, ("00", "10", "11", "11")))
        # The first sign is all that a lie cannot change here: the clerk puts it anew.
        self.assertIn((0, ("", (0, ""), 0), ("", (0, ""), 0), 0, "="), told.table)
        # Nothing arrives of the empty paper, but of a copy of it something may.
        more = Hand("more", "01", (("a", 1, (("0", ""), ("1", "01"))),))
        self.same(self.check(way_of(exactly("01", "0"), ("hand", more), ("clerk", ALL))).lie, None)
        self.same(self.check(way_of(exactly("01", "1"), ("hand", more), ("clerk", ALL))).lie, (1, ("1", "01", "00")))

    def test_a_speller(self):
        told = self.check(way_of(ALL, ("hand", TURN), SPELL))
        self.same(told.lie, (1, ("0", "1", "1110")))
        self.assertIn((0, ("", 0), ("", 0), 0, "="), told.table)
        self.assertIn((0, ("", 1), ("", 1), 1, "#"), told.table)
        # Signs that are spelled alike cannot be told apart any more.
        self.assertTrue(self.check(way_of(ALL, ("hand", TURN), ("spell", ("0", "0"), "", "")), 3))
        # A hand behind a speller reads what stands ahead and behind, too.
        self.same(self.check(way_of(exactly("01", "0"), ("spell", ("0", "0"), "1", "1"), ("hand", Hand(
            "some", "01", (("a", 1, (("01", "10"),)),)))), 1).lie, (1, ("0", "101", "110")))
        self.same(self.check(way_of(ALL, ("spell", ("00", "00"), "1", "1"), ("hand", Hand(
            "some", "01", (("a", 1, (("11", "00"),)),)))), 1).lie, (1, ("", "11", "00")))

    def test_an_echo(self):
        # One slip of the hand, and another one of the telephone that hides it.
        way = way_of(ALL, ("hand", TURN), ("echo", TURN, 0))
        self.assertTrue(self.check(way))
        self.same(self.check(way, 2).lie, (2, ("0", "1", "1")))
        # Compared with what comes, an echo finds nothing but its own slips.
        self.same(self.check(way_of(ALL, ("hand", TURN), ("echo", TURN, 1))).lie, (1, ("0", "1", "1")))
        told = self.check(way_of(ALL, ("hand", LOST), ("echo", LOST, 0)), 2)
        self.assertTrue(any(entry[1][1][1].startswith("-") for entry in told.table))
        self.assertFalse(any(entry[1][1][1] == "#" for entry in told.table))
        # In the clean story the lag of an echo can be "#".
        told = self.check(way_of(ALL, ("spell", ("1", "0"), "", ""), ("hand", TURN), ("echo", TURN, 0)))
        self.assertTrue(any(entry[2][2][1] == "#" for entry in told.table))
        self.same(told.lie, (1, ("0", "1", "0", "0")))

    def test_an_echo_of_each_paper(self):
        for paper in range(4):
            way = way_of(ALL, ("hand", TURN), ("spell", ("0", "1"), "", "1"), ("hand", TURN), ("echo", STILL, paper))
            told = self.check(way, 1)
            # Compared with paper 2 the second hand is found, and the first one is not.
            wanted = {2: (1, ("0", "1", "11", "11", "11")), 3: (1, ("", "", "1", "0", "0"))}
            self.same(told.lie, wanted.get(paper))

    def test_what_is_written_at_the_end_is_read_by_the_next(self):
        # The hand behind the clerk slips with the sign that the clerk writes when the number has ended.
        self.same(self.check(way_of(exactly("01", "0"), ("clerk", EVEN), ("hand", TURN))).lie, (1, ("0", "0", "1")))
        self.same(self.check(way_of(exactly("01", "0"), ("clerk", EVEN), ("clerk", ALL), ("hand", TURN))).lie,
                  (1, ("0", "0", "0", "1")))
        self.same(self.check(way_of(exactly("01", "1"), ("spell", ("0", "0"), "", "11"), ("hand", SWAP)), 2).lie,
                  (1, ("1", "011", "101")))
        self.assertTrue(self.check(way_of(exactly("01", "0"), ("clerk", EVEN), ("hand", TURN), ("desk", EVEN))))

    def test_the_price_at_the_end(self):
        # The price of what is read at the end counts, and must not be above the most.
        way = way_of(exactly("01", "1"), ("spell", ("1", "1"), "", "11"), ("hand", TURN), ("desk", free_series(
            "threes", "01", ("sum", 3, (1,), 0))))
        self.same(self.check(way, 3).lie, (3, ("1", "111", "000", "000")))
        self.assertTrue(self.check(way, 2))

    def test_slips_at_the_end_that_bring_the_paper_back(self):
        # For the price of the lie two other slips change nothing: what they write is no lie, though it is less.
        hand = Hand("some", "012", (("a", 1, (("1", ""), ("1", "11"))), ("b", 2, (("11", "22"),))))
        way = way_of(exactly("012", "0"), ("spell", ("0", "1", "2"), "", "11"), ("hand", hand),
                     ("desk", exactly("012", "011", "022")))
        self.same(self.check(way, 2).lie, (2, ("0", "011", "022", "022")))

    def test_price_then_number_then_papers(self):
        hand = Hand("some", "01", (("a", 2, (("0", "1"),)), ("b", 1, (("11", "0"), ("11", "00")))))
        self.same(self.check(way_of(ALL, ("hand", hand)), 3).lie, (1, ("11", "0")))
        self.same(self.check(way_of(exactly("01", "0", "00"), ("hand", hand)), 3).lie, (2, ("0", "1")))
        # The first paper decides ahead of the second one.
        twice = Hand("twice", "01", (("a", 1, (("0", "11"), ("0", "1"))),))
        undo = Hand("undo", "01", (("a", 1, (("11", ""), ("1", "000"))),))
        self.same(self.check(way_of(exactly("01", "0"), ("hand", twice), ("hand", undo), ("desk", exactly("01", "000", "1"))),
                             2).lie, (1, ("0", "1", "1", "1")))
        self.same(self.check(way_of(exactly("01", "0"), ("hand", twice), ("hand", undo), ("desk", exactly("01", "000", "10"))),
                             2).lie, (2, ("0", "1", "000", "000")))

    def test_most_from_0_to_6(self):
        way = way_of(ALL, ("hand", TURN), ("hand", TURN))
        for most in range(7):
            told = self.check(way, most) if most < 3 else Trust(way, most=most)
            self.assertIs(bool(told), most == 0)
            self.assertEqual({entry[3] for entry in told.table}, set(range(most + 1)))
        dear = Hand("dear", "01", (("a", 6, (("x", "y"),)),))
        self.assertIs(bool(Trust(way_of(ALL, ("hand", dear)), most=5)), True)
        self.same(Trust(way_of(ALL, ("hand", dear)), most=6).lie, (6, ("0", "1")))
        self.same(lie_price(way_of(ALL, ("hand", dear)), most=6), 6)
        self.same(lie_price(way_of(ALL, ("hand", TURN))), 1)
        self.same(lie_price(way_of(ALL, ("hand", dear))), None)

    def test_many_slips_in_long_papers(self):
        double = ("spell", ("00", "11"), "", "")
        told = Trust(way_of(ALL, *[double] * 9, ("hand", TURN)), most=6)
        self.same(told.table, tuple(
            (0, (*[on] * 9, ""), (*[on] * 9, ""), spent, "=" if spent == 0 else "#")
            for on in (0, 1) for spent in range(7) if on or not spent))
        papers = ["0" * 2 ** k for k in range(10)]
        self.same(told.lie, (1, (*papers, "0" * 511 + "1")))
        # Two slips in one step are found, and told, as well.
        told = Trust(way_of(ALL, *[double] * 8, ("hand", TURN), ("desk", EVEN)), most=2)
        self.same(told.lie, (2, (*papers[:9], "0" * 254 + "11", "0" * 254 + "11")))
        way = way_of(exactly("01", "1"), *[double] * 5, ("hand", TURN), ("desk", EVEN), ("hand", TURN), ("hand", TURN))
        told = Trust(way, most=6)
        self.same(told.lie[0], 1)
        self.same(judge_trust(way, 0, Trust(way, most=0).table), None)
        self.assertEqual({entry[3] for entry in told.table}, set(range(7)))

    def test_the_house(self):
        series = example_series()
        hand = example_hand()
        told = Trust(way_of(series, ("hand", hand), ("desk", series)))
        self.same(told.lie, (1, (told.lie[1][0],) + (told.lie[1][1],) * 2))
        self.assertIn(told.lie[1][1], series)
        self.assertTrue(Trust(way_of(series, ("hand", hand), ("desk", series), ("echo", hand, 0))))

    def test_two_thousand_entries(self):
        hand = Hand("some", "01", (("a", 2, (("yx", "y1"),)), ("b", 2, (("1xz", "0"),)), ("c", 1, (("1", "1z"), ("0yy", "")))))
        for way, most in ((way_of(rounds(40), ("hand", hand)), 1),
                          (way_of(rounds(50), ("hand", Hand("some", "01", (("a", 2, (("y0y", "1"),)),)))), 5)):
            told = Trust(way, most=most)
            self.assertEqual(len(told.table), 2000)
            self.same(told.table, slow_table(SlowTrust(way, most)))
        hand = Hand("some", "01", (("a", 2, (("1y", "yz0"),)), ("b", 1, (("0y", "1yz"), ("y", "y0")))))
        for way, most in ((way_of(rounds(23), ("echo", hand, 0)), 4),
                          (way_of(rounds(3), ("desk", rounds(23)), ("desk", rounds(29))), 0)):
            self.assertEqual(len(slow_table(SlowTrust(way, most))), 2001)
            self.raises(TooMany, {"what": "entry"}, Trust, way, most=most)
            self.raises(TooMany, {"what": "entry"}, lie_price, way, most=most)

    def test_against_slow_looks(self):
        dice = random.Random(241)
        seen = []
        for _ in range(250):
            way, most = some_way(dice), dice.randrange(4)
            if slow_table(SlowTrust(way, most), 250) is not None:
                seen.append(bool(self.check(way, most)))
        self.assertGreater(seen.count(False), 20)
        self.assertGreater(seen.count(True), 20)


class TestJudged(Case):
    def setUp(self):
        self.way = way_of(EVEN, ("hand", SWAP), ("clerk", ALL), ("spell", ("0", "1"), "", "1"), ("echo", SWAP, 2),
                          ("desk", ALL))
        self.table = Trust(self.way, most=0).table
        self.slow = SlowTrust(self.way, 0)

    def judged(self, table):
        told = judge_trust(self.way, 0, table)
        self.same(told, slow_judge(self.slow, table))
        return told

    def test_right_tables(self):
        table = self.table
        self.assertGreater(len(table), 10)

        def listed(thing):
            return [listed(part) for part in thing] if thing.__class__ is tuple else thing

        for told in (table, table[::-1], table * 2, listed(table), [*table, listed(table[2])]):
            self.assertIsNone(self.judged(told))
        self.assertIsNone(judge_trust(self.way, 0, table * 100))

    def test_no_table(self):
        for thing in (None, True, 5, "", "00", {}, set(), {self.slow.beginning: 1}, len):
            self.assertEqual(self.judged(thing), -1)

    def test_without_the_beginning(self):
        rest = tuple(entry for entry in self.table if entry != self.slow.beginning)
        self.assertEqual(len(rest), len(self.table) - 1)
        for table in ((), rest, (*rest, self.slow.beginning[:4]), self.slow.beginning):
            self.assertEqual(self.judged(table), -1)
        self.assertIsNone(self.judged((*rest, self.slow.beginning)))
        # A beginning that is left out need not be there.
        way = way_of(ALL, ("desk", NONE))
        self.assertIsNone(judge_trust(way, 1, ()))
        self.assertEqual(judge_trust(way, 1, (SlowTrust(way, 1).beginning,)), 0)

    def test_entries_without_their_form(self):
        many = len(self.table)
        for entry in odd_entries(self.slow.beginning):
            if not isinstance(entry, tuple) or entry[-1:] != (["="],):
                self.assertEqual(self.judged((*self.table, entry)), many, entry)

    def test_states_without_their_form(self):
        many = len(self.table)
        # No number ends at this entry, so that nothing else is wrong with it than what is exchanged.
        at, now, clean, spent, lag = [entry for entry in self.table if entry[0] == 1 and entry[1][1][1] == "0"][-1]
        odd = (*ODD_THINGS, 1, 2, (0,), (1, ""), (0, "", 0), (0, "2"), (0, "00"), (True, ""), (1, ""), (0, None), "0", "1", "00", "2", ("", "="),
               ("0", "="), ("", "=="), ("01", "="), ("2", "="), (None, "="), ("", None), (0, "="), ["", "="], [0, ""], [""],
               (-1, ""), (-1, "0"), (0, "0"), (0, "1"), (1, "0"), (0, "01"), (0, ("0",)), (0, ["0"]), ("0", "0"), (None, "0"),
               ("", "+"), ("", "-01"), ("", "+2"), ("", "#"), (1,), ((), ()), 10 ** 39)
        for k in range(5):
            for thing in odd:
                entry = (at, (*now[:k], thing, *now[k + 1:]), clean, spent, lag)
                self.judged((*self.table, entry))
                entry = (at, now, (*clean[:k], thing, *clean[k + 1:]), spent, lag)
                self.judged((*self.table, entry))
            for states in (now[:k], (*now, ""), now[::-1], None, "", 5):
                self.assertEqual(self.judged((*self.table, (at, states, clean, spent, lag))), many)
                self.assertEqual(self.judged((*self.table, (at, now, states, spent, lag))), many)
        # In the clean story no hand has begun a piece.
        self.assertEqual(self.judged(((at, now, ("0", *clean[1:]), spent, lag), *self.table)), 0)

    def test_left_out_and_bad_entries(self):
        at, now, clean, spent, lag = self.slow.beginning
        for entry in ((at, now, clean, 1, lag), (at, (*now[:3], ("", "#"), now[4]), clean, spent, lag),
                      (at, now, clean, spent, "#"), (at, now, clean, 10 ** 39, lag)):
            self.assertEqual(self.judged(((*entry,), *self.table)), 0)
        way = way_of(exactly("01", "0"), ("hand", TURN), ("desk", exactly("01", "0")))
        table = Trust(way).table
        dead = [at for at in range(len(way.series.walk)) if at not in way.series.walk.live][0]
        for entry in ((dead, ("", 0), ("", 0), 0, "="), (0, ("", dead), ("", 0), 0, "=")):
            self.assertEqual(judge_trust(way, 1, (*table, entry)), len(table))
        for standing in range(len(way.series.walk)):
            entry = (standing, ("", standing), ("", dead), 1, "#")
            self.same(judge_trust(way, 1, (*table, entry)), slow_judge(SlowTrust(way, 1), (*table, entry)))

    def test_steps_that_lead_out_of_the_table(self):
        for k in range(len(self.table)):
            self.assertIsNotNone(self.judged(self.table[:k] + self.table[k + 1:]))

    def test_against_a_slow_look(self):
        dice = random.Random(251)
        told = []
        for _ in range(80):
            way, most = some_way(dice), dice.randrange(3)
            slow = SlowTrust(way, most)
            table = slow_table(slow, 60)
            for _ in range(5 if table else 0):
                other = spoilt_deep(dice, table)
                told.append(judge_trust(way, most, other))
                self.same(told[-1], slow_judge(slow, other))
        self.assertTrue(None in told and -1 in told and 0 in told and 2 in told)


def spoilt_deep(dice, table):
    """A table to which something was done: entries are gone, come twice, or have something else deep within."""
    out = list(table)
    for _ in range(dice.randrange(3)):
        k = dice.randrange(len(out)) if out else 0
        what = dice.randrange(4)
        if what == 0 and out:
            del out[k]
        elif what == 1 and out:
            out.append(out[k])
        elif what == 2:
            dice.shuffle(out)
        elif out:
            out.insert(dice.randrange(len(out) + 1), changed(dice, out[k]))
    return tuple(out)


def changed(dice, thing):
    """A thing with some part within it exchanged."""
    if thing.__class__ in (tuple, list) and thing and dice.random() < 0.9:
        k = dice.randrange(len(thing))
        return (*thing[:k], changed(dice, thing[k]), *thing[k + 1:])
    return dice.choice([0, 1, 2, -1, True, False, None, "", "0", "1", "=", "#", "+0", "-1", (), (0, ""), ("", "="), [0, "1"]])


class TestCleanWay(Case):
    def test_ways_that_are_clean(self):
        for way in (way_of(ALL), way_of(NONE), way_of(NONE, ("desk", NONE)), way_of(ALL, ("hand", LOST), ("desk", ALL)),
                    way_of(EVEN, ("desk", EVEN), ("hand", TURN), ("echo", TURN, 0), ("echo", LOST, 1)),
                    way_of(exactly("01", "0", "01"), ("clerk", ALL), SPELL, ("clerk", ALL), ("echo", SWAP, 3))):
            told = CleanWay(way)
            self.assertIs(bool(told), True)
            self.assertIsNone(told.stopped)

    def test_the_least_number_and_the_first_station(self):
        told = CleanWay(way_of(ALL, ("desk", EVEN)))
        self.assertIs(bool(told), False)
        self.same(told.stopped, ("1", 0))
        self.same(CleanWay(way_of(ALL, ("desk", ALL), ("hand", TURN), ("desk", EVEN), ("desk", NONE))).stopped, ("", 3))
        self.same(CleanWay(way_of(ALL, ("desk", EVEN), ("desk", EVEN))).stopped, ("1", 0))
        self.same(CleanWay(way_of(ALL, ("desk", exactly("01", "0", "00")), ("desk", rounds(2)))).stopped, ("", 0))
        self.same(CleanWay(way_of(exactly("01", "0", "11"), ("desk", rounds(1)), ("desk", rounds(2)))).stopped, ("0", 1))
        self.same(CleanWay(way_of(ALL, ("clerk", ALL))).stopped, ("", 0))
        self.same(CleanWay(way_of(exactly("01", "1", "10", "11"), ("clerk", exactly("01", "0", "01", "1")))).stopped, ("10", 0))
        # The speller makes them differ, so the echo stops them, but for those that stay alike.
        same = ("spell", ("0", "11"), "", "")
        self.same(CleanWay(way_of(ALL, same, ("echo", TURN, 0))).stopped, ("1", 1))
        self.same(CleanWay(way_of(free_series("zeros", "01", ("sum", 2, (1,), 0)), same, ("echo", TURN, 0))).stopped,
                  ("11", 1))
        self.same(CleanWay(way_of(ALL, ("spell", ("00", "11"), "", ""), ("echo", TURN, 0))).stopped, ("0", 1))

    def test_behind_a_clerk_that_stops(self):
        # What the clerk stops the desk behind it never sees.
        self.same(CleanWay(way_of(exactly("01", "1", "10"), ("clerk", exactly("01", "1")), ("desk", NONE))).stopped, ("1", 1))
        self.same(CleanWay(way_of(exactly("01", "10"), ("clerk", exactly("01", "01")), ("desk", NONE))).stopped, ("10", 0))
        self.same(CleanWay(way_of(ALL, ("clerk", exactly("01", "01")), ("spell", ("00", "00"), "", ""),
                                  ("echo", TURN, 0))).stopped, ("", 0))

    def test_echoes_that_are_never_reached(self):
        # All papers are stopped by the clerk, and the papers that the echo would compare differ ever more.
        zeros = free_series("zeros", "01", ("square", ((0, 1), (1, 1)), (0,)))
        doubled = ("spell", ("00", "11"), "", "")
        self.same(CleanWay(way_of(zeros, ("clerk", NONE), doubled, ("echo", TURN, 0))).stopped, ("", 0))
        self.same(CleanWay(way_of(zeros, doubled, ("echo", TURN, 0))).stopped, ("0", 1))

    def test_long_numbers(self):
        whole = rounds(60)
        least = free_series("some", "01", ("not", ("square", whole.rule[1], (59,))))
        self.same(CleanWay(way_of(ALL, ("desk", least))).stopped, ("0" * 59, 0))
        # Desks that know more than the number does, together far more than can be gone through at once.
        desks = [free_series("d", "01", ("either", ("sum", 2, (1,), 0), ("sum", many, (1, 2), 0)))
                 for many in (31, 32, 33, 34, 35, 36)]
        self.assertTrue(CleanWay(way_of(EVEN, *[("desk", desk) for desk in desks])))

    def test_against_slow_looks(self):
        dice = random.Random(257)
        seen = set()
        for _ in range(400):
            way = some_way(dice, 4)
            ends = [(number, clean_story(way, number)[0]) for number in numbers_upto(way.series, 4)]
            stopped = [(number, end[1]) for number, end in ends if end[0] == "stopped"]
            told = CleanWay(way)
            self.assertIs(bool(told), told.stopped is None)
            if stopped:
                self.same(told.stopped, stopped[0])
            elif told.stopped is not None:
                self.assertGreater(len(told.stopped[0]), 4)
                self.same(clean_story(way, told.stopped[0])[0][1], told.stopped[1])
            seen.add(told.stopped is None)
        self.assertEqual(seen, {True, False})
