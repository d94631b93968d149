"""Promises [7] and [14]: ranks, and the numbers of a series in their order."""

import itertools
import random

from brute import key_of, numbers_upto, papers_upto
from handcarried.errors import BadPaper, NoNumber, TooMany
from handcarried.ranks import Roll, count_of, last_number, next_number, nth_number, numbers, rank_of
from handcarried.series import Series
from helpers import ODD_THINGS, Case, example_series, free_series
from test_forms import some_form
from test_rules import some_rule

ANY = ("any",)
NONE = free_series("none", "01", ("not", ANY))
ALL = free_series("all", "0123")
ZEROS = Series("zeros", "01", (("run", "a", "0", 0, None),), ANY)
TENS = free_series("tens", "0123456789", ("sum", 10, (1, 3), 0))


def few():
    """A series with just four numbers."""
    return Series("few", "012", (("words", "a", ("2", "0110", "10", "0101")),), ANY)


def of_length(many, allowed):
    """The form of papers of so many signs, 12 to 72."""
    least, rest = divmod(many, 6)
    return tuple(("run", name, allowed, least + (k < rest), least + (k < rest)) for k, name in enumerate("abcdef"))


class TestCounts(Case):
    def test_counts(self):
        self.assertEqual([count_of(ALL, many) for many in range(201)], [4 ** many for many in range(201)])
        self.assertEqual([count_of(TENS, many) for many in range(1, 201)], [10 ** (many - 1) for many in range(1, 201)])
        self.assertEqual([count_of(few(), many) for many in range(201)], [0, 1, 1, 0, 2] + [0] * 196)
        self.assertEqual([count_of(NONE, many) for many in (0, 1, 60, 200)], [0, 0, 0, 0])
        self.assertEqual([count_of(ZEROS, many) for many in (0, 1, 60, 200)], [1, 1, 1, 1])

    def test_somewhat_beyond(self):
        self.assertEqual(count_of(ALL, 230), 4 ** 230)
        self.assertEqual(count_of(ALL, -1), 0)

    def test_against_a_slow_look(self):
        told = numbers_upto(example_series(), 5)
        for many in range(6):
            self.assertEqual(count_of(example_series(), many), sum(len(number) == many for number in told))


class TestRanks(Case):
    def test_ranks_of_numbers_and_of_others(self):
        series = few()
        self.same([rank_of(series, paper) for paper in ("2", "10", "0101", "0110")], [0, 1, 2, 3])
        self.same([rank_of(series, paper) for paper in ("", "0", "1", "00", "01", "11", "222", "0000", "0102", "0111",
                                                        "00000", "2" * 60)], [0, 0, 0, 1, 1, 2, 2, 2, 3, 4, 4, 4])

    def test_the_empty_paper(self):
        for series in (few(), ALL, NONE, TENS, ZEROS):
            self.same(rank_of(series, ""), 0)
        self.same(nth_number(ALL, 0), "")
        self.same(rank_of(ALL, "0"), 1)

    def test_very_many_ahead(self):
        before = sum(4 ** many for many in range(60))
        self.same(rank_of(ALL, "0" * 60), before)
        self.same(rank_of(ALL, "3" * 60), before + 4 ** 60 - 1)
        self.same(rank_of(ALL, "1" + "0" * 59), before + 4 ** 59)
        self.same(nth_number(ALL, before + 4 ** 59 + 2), "1" + "0" * 57 + "02")
        # Ranks of at most 40 digits, and papers of 60 signs.
        paper = "0" * 30 + "37" * 15
        rank = rank_of(free_series("all", "0123456789"), paper)
        self.same(rank, sum(10 ** many for many in range(60)) + int(paper))
        self.same(nth_number(free_series("all", "0123456789"), int("1" * 40)), "0" * 40)

    def test_bad_papers(self):
        for call in (rank_of, next_number, last_number):
            call(ALL, "0" * 60)
            for thing in ("0" * 61, "4", "01 ", *ODD_THINGS):
                if thing not in ("", "01"):
                    self.raises(BadPaper, {"paper": thing}, call, ALL, thing)

    def test_forward_and_back(self):
        for series in (few(), ALL, TENS, example_series(), ZEROS):
            told = list(itertools.islice(numbers(series), 200))
            for rank, number in enumerate(told):
                self.assertEqual(nth_number(series, rank), number)
                if len(number) <= 60:
                    self.assertEqual(rank_of(series, number), rank)
        for rank in (0, 1, 12345, 10 ** 18 + 7, 10 ** 39):
            self.assertEqual(rank_of(TENS, nth_number(TENS, rank)), rank)

    def test_no_number(self):
        for rank in (-1, -10 ** 39, 4, 5, 10 ** 39):
            self.raises(NoNumber, {"number": rank}, nth_number, few(), rank)
        for rank in (-1, 0, 1):
            self.raises(NoNumber, {"number": rank}, nth_number, NONE, rank)
        self.raises(NoNumber, {"number": -1}, nth_number, ALL, -1)

    def test_two_hundred_signs(self):
        self.same(nth_number(ZEROS, 200), "0" * 200)
        self.raises(NoNumber, {"number": 201}, nth_number, ZEROS, 201)
        odd = Series("odd", "01", (("run", "a", "0", 0, None),), ("sum", 2, (1,), 0))
        self.same(nth_number(odd, 200), "0" * 200)
        thirds = free_series("thirds", "01", ("both", ("square", ((1, 3), (2, 3), (0, 3), (3, 3)), (2,)), ANY))
        self.same(nth_number(thirds, 66), "0" * 200)
        self.raises(NoNumber, {"number": 67}, nth_number, thirds, 67)

    def test_against_a_slow_look(self):
        dice = random.Random(67)
        done = 0
        papers = papers_upto("01", 6)
        while done < 60:
            try:
                series = Series("x", "01", some_form(dice, "01"), some_rule(dice, "01", 1))
            except TooMany:
                continue
            done += 1
            told = numbers_upto(series, 7)
            for paper in papers:
                ahead = [number for number in told if key_of(number) < key_of(paper)]
                behind = [number for number in told if key_of(number) > key_of(paper)]
                self.same(rank_of(series, paper), len(ahead))
                self.same(last_number(series, paper), ahead[-1] if ahead else None)
                if behind:
                    self.same(next_number(series, paper), behind[0])
                else:
                    self.assertGreater(len(next_number(series, paper) or "0" * 8), 7)
            self.same(list(itertools.islice(numbers(series), len(told))), told)
            for rank in range(len(told)):
                self.same(nth_number(series, rank), told[rank])


class TestNextAndLast(Case):
    def test_of_numbers_and_of_other_papers(self):
        series = few()
        self.same([next_number(series, paper) for paper in ("", "2", "11", "0100", "0101", "0102", "0110")],
                  ["2", "10", "0101", "0101", "0110", "0110", None])
        self.same([last_number(series, paper) for paper in ("2", "10", "0101", "0110", "0111", "2" * 60, "00", "")],
                  [None, "2", "10", "0101", "0110", "0110", "2", None])

    def test_ahead_of_the_first_and_behind_the_last(self):
        for paper in ("", "0", "1" * 60):
            self.assertIsNone(next_number(NONE, paper))
            self.assertIsNone(last_number(NONE, paper))
        self.assertIsNone(last_number(ALL, ""))
        self.same(last_number(ALL, "0"), "")
        self.same(next_number(ALL, ""), "0")
        self.same(next_number(ALL, "333"), "0000")
        self.same(last_number(ALL, "0000"), "333")
        self.same(next_number(ALL, "0133"), "0200")
        self.same(last_number(ALL, "0200"), "0133")

    def test_many_signs_longer_or_shorter(self):
        form = tuple(("run", name, "01", 12, 12) for name in "abcde")
        long = Series("long", "01", (*form, ("run", "f", "0", 0, None)), ANY)
        self.same(next_number(long, ""), "0" * 60)
        self.same(next_number(long, "1" * 60), "0" * 61)
        self.same(last_number(long, "0" * 60), None)
        rounds = Series("rounds", "01", (("run", "a", "0", 0, None),), ("square", fifty(), (49,)))
        self.same(next_number(rounds, ""), "0" * 49)
        self.same(next_number(rounds, "0" * 49), "0" * 99)
        self.same(next_number(rounds, "0" * 60), "0" * 99)
        self.same(last_number(rounds, "1" * 60), "0" * 49)
        self.same(last_number(rounds, "0" * 49), None)
        self.same(last_number(rounds, "0" * 50), "0" * 49)

    def test_more_than_sixty_signs(self):
        self.same(next_number(ALL, "3" * 60), "0" * 61)
        self.same(next_number(ZEROS, "0" * 60), "0" * 61)
        rule = ("both", ("square", fifty(), (49,)), ("square", fifty(3), (2,)))
        series = free_series("far", "01", rule)
        # Lengths that leave 49 by 50 and 2 by 3.
        self.same(next_number(series, ""), "0" * 149)
        self.same(next_number(series, "0" * 60), "0" * 149)
        self.same(last_number(series, "0" * 60), None)


def fifty(many=50):
    return tuple(((at + 1) % many,) * 2 for at in range(many))


class TestRoll(Case):
    def test_by_rank(self):
        roll = Roll(few())
        self.same([roll[rank] for rank in range(4)], ["2", "10", "0101", "0110"])
        for rank in (-1, 4):
            self.raises(NoNumber, {"number": rank}, lambda: roll[rank])
        self.same(Roll(ZEROS)[200], "0" * 200)
        self.raises(NoNumber, {"number": 201}, lambda: Roll(ZEROS)[201])

    def test_in(self):
        roll = Roll(few())
        for paper in ("2", "10", "0101", "0110"):
            self.assertIs(paper in roll, True)
        for thing in ("", "0", "0111", "0" * 61, *ODD_THINGS):
            self.assertIs(thing in roll, False)
        self.assertIs("0" * 61 in Roll(ZEROS), False)
        self.assertIs("0" * 60 in Roll(ZEROS), True)

    def test_iteration(self):
        for series in (few(), NONE, ALL):
            self.assertRaises(TypeError, iter, Roll(series))
            self.assertRaises(TypeError, list, Roll(series))


class TestNumbers(Case):
    def test_where_they_end(self):
        self.same(list(numbers(few())), ["2", "10", "0101", "0110"])
        self.same(list(numbers(NONE)), [])
        self.same(list(numbers(Series("x", "01", (("run", "a", "0", 0, 1),), ANY))), ["", "0"])
        long = Series("long", "01", of_length(72, "0"), ANY)
        self.same(list(numbers(long)), ["0" * 72])
        self.same(len(list(numbers(Series("x", "012", (("run", "a", "012", 0, 6),), ("sum", 3, (1,), 0))))), 1 + 364)

    def test_without_end(self):
        self.same(list(itertools.islice(numbers(ALL), 7)), ["", "0", "1", "2", "3", "00", "01"])
        told = list(itertools.islice(numbers(TENS), 5000))
        self.assertEqual(told, sorted(told, key=key_of))
        self.assertEqual(len(set(told)), 5000)
        self.assertEqual(list(itertools.islice(numbers(ZEROS), 400)), ["0" * many for many in range(400)])
        rounds = Series("rounds", "01", (("run", "a", "0", 0, None),), ("square", fifty(), (49,)))
        self.assertEqual([len(number) for number in itertools.islice(numbers(rounds), 6)], [49, 99, 149, 199, 249, 299])

    def test_each_as_soon_as_it_is_found(self):
        # There are very many numbers of the first length alone.
        wide = Series("wide", "0123456789", of_length(60, "0123456789"), ("sum", 2, (1,), 1))
        self.same(list(itertools.islice(numbers(wide), 6)), ["0" * 59 + sign for sign in "13579"] + ["0" * 58 + "10"])
        self.assertEqual(count_of(wide, 60), 10 ** 60 // 2)

    def test_nothing_before_it_is_iterated(self):
        numbers(None)
        numbers(ALL)
        self.assertRaises(AttributeError, lambda: next(numbers(None)))

    def test_two_at_once(self):
        first, second = numbers(ALL), numbers(ALL)
        self.assertEqual([next(first), next(first), next(second), next(first), next(second)], ["", "0", "", "1", "0"])
