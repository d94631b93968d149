"""Promise [18]: events of a length, and the lengths of numbers that are missed."""

import random

from brute import SlowFinding, copies_upto, numbers_upto, pieces_by, slow_table
from handcarried.errors import TooMany, Unlike
from handcarried.events import events, missing_lengths
from handcarried.finding import Finding
from handcarried.hands import Hand
from handcarried.ranks import count_of
from handcarried.series import Series
from helpers import Case, example_hand, example_series, free_series
from test_crossings import NO_HAND, OTHER, exactly, some_series
from test_crossings import rounds as round_series
from test_lengths import flags_upto, rounds, shortest, unrolled
from test_prices import some_hand

ANY = ("any",)
ALL = free_series("all", "01")
NONE = free_series("none", "01", ("not", ANY))


def slow_events(series, hand, length):
    """The events of a length, one by one."""
    many = again = 0
    for number in numbers_upto(series, length):
        if len(number) == length:
            for before, behind, _ in hand.pairs:
                for place in range(length):
                    if number.startswith(before, place):
                        many += 1
                        again += number[:place] + behind + number[place + len(before):] in series
    return many, again


def slow_flags(series, hand, most, many):
    """The flags of the lengths up to one, by the entries that the copyings of so many signs reach."""
    point = SlowFinding(series, hand, most)
    price_steps = [(len(before), k) for k, (before, _) in enumerate(pieces_by(hand))]
    lots = [set() if point.left_out(point.beginning) else {point.beginning}]
    for length in range(1, many + 1):
        lots.append({point.steps(entry)[k] for size, k in price_steps if size <= length
                     for entry in lots[length - size] if not point.left_out(point.steps(entry)[k])})
    return [1 if any(point.bad(entry) for entry in lot) else 0 for lot in lots]


def round_about(ahead, *sizes):
    """The series of a walk that goes into one of some rounds."""
    walk = rounds(ahead, *sizes)
    return free_series("rounds", "01", ("square", walk.rows, walk.goals))


class TestEvents(Case):
    def test_ordinary_numbers(self):
        # 00, 12 and 21: the pairs of two unlike neighbours stand in two of them.
        series = free_series("threes", "012", ("sum", 3, (1,), 0))
        hand = Hand("some", "012", (("swap", 1, (("xy", "yx"),)),))
        self.same(events(series, hand, 2), (2, 2))
        self.same(events(series, Hand("some", "012", (("a", 4, (("1", "0"), ("2", ""))),)), 2), (4, 0))
        self.same(events(series, Hand("some", "012", (("a", 4, (("0", ""), ("21", "1"))),)), 2), (3, 2))
        self.same(events(series, Hand("some", "012", (("a", 4, (("0", "0" * 3), ("0", ""))),)), 2), (4, 4))

    def test_each_pair_once_whatever_its_slips_cost(self):
        hand = Hand("some", "01", (("a", 3, (("0", "1"),)), ("b", 1, (("0", "1"), ("x", "y")))))
        self.same(events(ALL, hand, 1), (2, 2))

    def test_lengths_from_nothing_to_sixty(self):
        for length in range(61):
            self.same(events(ALL, OTHER, length), (length * 2 ** length, length * 2 ** length))
            self.same(events(free_series("even", "01", ("sum", 2, (1,), 0)), OTHER, length),
                      (length * 2 ** length // 2, 0))
            # One sign fewer, or two, or three, at so many places.
            hand = Hand("some", "01", (("a", 1, (("000", ""), ("00", "1"))),))
            wanted = max(length - 2, 0) * 2 ** max(length - 3, 0) + max(length - 1, 0) * 2 ** max(length - 2, 0)
            self.same(events(ALL, hand, length), (wanted, wanted))
        self.same(events(ALL, OTHER, 0), (0, 0))

    def test_somewhat_beyond(self):
        self.same(events(ALL, OTHER, 61), (61 * 2 ** 61,) * 2)
        self.same(events(ALL, OTHER, -1), (0, 0))

    def test_without_numbers_and_without_slips(self):
        for length in (0, 1, 7, 60):
            self.same(events(NONE, OTHER, length), (0, 0))
            self.same(events(ALL, NO_HAND, length), (0, 0))
        few = exactly("01", "0110")
        self.same([events(few, OTHER, length) for length in (3, 4, 5)], [(0, 0), (4, 0), (0, 0)])

    def test_numbers_of_sixty_signs(self):
        series = free_series("tens", "0123456789", ("sum", 10, (1, 3), 0))
        hand = Hand("some", "0123456789", (("one", 1, (("x", "y"),)), ("swap", 1, (("xy", "yx"),))))
        told = events(series, hand, 60)
        many = count_of(series, 60)
        # At each of 60 places nine pairs, at each of 59 places a pair for nine of ten neighbours.
        self.assertEqual(told[0], many * 9 * 60 + many * 59 * 9 // 10)
        # Neighbours are missed whose difference, twice, leaves no rest by ten: five signs apart.
        self.assertEqual(told[1], many * 59 // 10)

    def test_against_a_slow_look(self):
        dice = random.Random(113)
        for _ in range(120):
            series, hand = some_series(dice, "01"), some_hand(dice, "01")
            for length in range(6):
                self.same(events(series, hand, length), slow_events(series, hand, length))
        self.same(events(example_series(), example_hand(), 4), slow_events(example_series(), example_hand(), 4))

    def test_unlike_signs(self):
        self.raises(Unlike, {"what": "signs"}, events, ALL, example_hand(), 3)
        self.raises(Unlike, {"what": "signs"}, missing_lengths, ALL, example_hand())


class TestMissingLengths(Case):
    def test_ordinary_series(self):
        series = free_series("threes", "012", ("sum", 3, (1,), 0))
        hand = Hand("some", "012", (("swap", 1, (("xy", "yx"),)),))
        self.same(missing_lengths(series, hand), ((0, 0), (1,)))
        self.same(missing_lengths(series, hand, most=0), ((), (0,)))
        self.same(missing_lengths(ALL, OTHER), ((0,), (1,)))
        self.same(missing_lengths(round_series(3), OTHER), ((0,), (0, 0, 1)))

    def test_nothing_is_missed(self):
        for series, hand, most in ((NONE, OTHER, 9), (ALL, NO_HAND, 9), (ALL, OTHER, 0),
                                   (free_series("even", "01", ("sum", 2, (1,), 0)), OTHER, 1)):
            self.same(missing_lengths(series, hand, most=most), ((), (0,)))

    def test_few_lengths(self):
        few = exactly("01", "0", "1", "0110", "1110")
        self.same(missing_lengths(few, OTHER), ((0, 1, 0, 0, 1), (0,)))
        self.same(missing_lengths(few, Hand("some", "01", (("lost", 1, (("011", ""),)),))), ((0, 0, 0, 0, 1), (0,)))

    def test_the_number_counts_not_the_copy(self):
        hand = Hand("some", "01", (("more", 1, (("0", "010"),)),))
        self.same(missing_lengths(exactly("01", "01", "0101"), hand), ((0, 0, 1), (0,)))
        hand = Hand("some", "01", (("less", 1, (("010", "0"),)),))
        self.same(missing_lengths(exactly("01", "01", "0101"), hand), ((0, 0, 0, 0, 1), (0,)))

    def test_befores_of_two_and_three_signs(self):
        hand = Hand("some", "01", (("a", 2, (("000", "111"),)), ("b", 3, (("01", "10"),))))
        for series in (ALL, round_series(4), round_series(5, (1, 2)), free_series("x", "01", ("sum", 3, (1, 2), 1))):
            for most in (2, 3, 5):
                self.same(missing_lengths(series, hand, most=most), shortest(slow_flags(series, hand, most, 50)))

    def test_long_loops(self):
        # By a slip in the first sign one goes into another round, by one in a later sign one stays in it.
        series = round_about(1, 35, 17)
        self.assertEqual(len(series.walk), 54)
        self.same(missing_lengths(series, NO_HAND), ((), (0,)))
        lead, loop = missing_lengths(series, OTHER)
        self.assertEqual((lead, len(loop)), ((), 595))
        self.same(unrolled(lead, loop, 1300), flags_upto(series.walk, 1300))
        lead, loop = missing_lengths(round_about(0, 4, 6), OTHER)
        self.same((lead, loop), shortest(slow_flags(round_about(0, 4, 6), OTHER, 1, 60)))

    def test_too_many_lengths(self):
        # Three neighbouring lots come again behind 595 signs: with two signs ahead they end beyond the length 599.
        for series in (round_about(2, 35, 17), round_about(0, 26, 23), round_about(0, 24, 25)):
            for hand in (NO_HAND, OTHER):
                self.raises(TooMany, {"what": "length"}, missing_lengths, series, hand)
        self.same(missing_lengths(round_about(1, 17, 35), NO_HAND, most=9), ((), (0,)))

    def test_too_many_entries_go_ahead(self):
        series = round_about(2, 35, 17)
        self.raises(TooMany, {"what": "entry"}, missing_lengths, series, OTHER, most=2)
        self.raises(TooMany, {"what": "entry"}, Finding, series, OTHER, most=2)
        hand = Hand("some", "01", (("a", 1, (("0", ""),)), ("b", 3, (("xz", "y"), ("0", "x")))))
        self.raises(TooMany, {"what": "entry"}, missing_lengths, round_series(23), hand, most=7)

    def test_two_thousand_entries(self):
        hand = Hand("some", "01", (("a", 1, (("0", "1"), ("0", "00"))),))
        lead, loop = missing_lengths(round_series(50), hand, most=5)
        self.same((lead, loop), ((0,), (0,) * 49 + (1,)))

    def test_against_a_slow_look(self):
        dice = random.Random(127)
        done = 0
        while done < 80:
            series, hand, most = some_series(dice, "01"), some_hand(dice, "01", 3), dice.randrange(4)
            if slow_table(SlowFinding(series, hand, most), 120) is None:
                continue
            done += 1
            lead, loop = missing_lengths(series, hand, most=most)
            flags = slow_flags(series, hand, most, 40)
            self.same(unrolled(lead, loop, 40), flags)
            self.same((lead, loop), shortest(flags))
            for length in range(5):
                missed = any(copy != number and copy in series for number in numbers_upto(series, length)
                             if len(number) == length for copy in copies_upto(hand, number, most))
                self.assertEqual(flags[length], 1 if missed else 0)
