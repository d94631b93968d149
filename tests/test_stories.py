"""Promises [23] and [24]: stories, by what the hands do and by their ends."""

import random

from brute import copyings_upto, numbers_upto
from brute_ways import stories_upto
from handcarried.errors import BadCopying, BadNumber
from handcarried.hands import Hand
from handcarried.stories import clean_story, follow
from helpers import ODD_THINGS, Case, example_hand, example_series
from some_ways import ALL, EVEN, LOST, NONE, SPELL, SWAP, TURN, some_way, way_of
from test_crossings import exactly


def kept(paper):
    """The copying without slips."""
    return tuple((sign, sign) for sign in paper)


class TestFollow(Case):
    def test_no_station(self):
        self.same(follow(way_of(ALL), "01", ()), (("arrived", "01"), 0, ("01",), ()))
        self.same(follow(way_of(ALL), "", (None, 5)), (("arrived", ""), 0, ("",), ()))

    def test_a_hand(self):
        way = way_of(ALL, ("hand", SWAP))
        self.same(follow(way, "011", ((("01", "10"), ("1", "1")),)), (("arrived", "101"), 1, ("011", "101"), (0,)))
        self.same(follow(way, "011", (kept("011"),)), (("arrived", "011"), 0, ("011", "011"), ()))
        self.same(follow(way, "", ((),)), (("arrived", ""), 0, ("", ""), ()))
        # Two slips that bring the paper back are slips all the same.
        hand = Hand("some", "01", (("a", 2, (("0", "01"),)), ("b", 1, (("1", ""),))))
        self.same(follow(way_of(ALL, ("hand", hand)), "01", ((("0", "01"), ("1", "")),)),
                  (("arrived", "01"), 3, ("01", "01"), (0,)))

    def test_a_desk(self):
        way = way_of(ALL, ("desk", EVEN))
        self.same(follow(way, "11", ()), (("arrived", "11"), 0, ("11", "11"), ()))
        self.same(follow(way, "1", ()), (("stopped", 0, "1"), 0, ("1",), ()))
        self.same(follow(way_of(ALL, ("desk", NONE)), "", ()), (("stopped", 0, ""), 0, ("",), ()))

    def test_a_desk_lets_numbers_of_any_length_by(self):
        more = Hand("more", "01", (("a", 1, (("0", "000"),)),))
        way = way_of(ALL, ("hand", more), ("desk", EVEN))
        end, price, papers, slipped = follow(way, "0" * 60, ((("0", "000"),) * 60,))
        self.same((end, price, slipped), (("arrived", "0" * 180), 60, (0,)))
        self.assertEqual([len(paper) for paper in papers], [60, 180, 180])
        self.assertNotIn("0" * 180, EVEN)

    def test_a_clerk(self):
        way = way_of(ALL, ("clerk", EVEN))
        self.same(follow(way, "10", ()), (("arrived", "11"), 0, ("10", "11"), ()))
        self.same(follow(way, "11", ()), (("arrived", "11"), 0, ("11", "11"), ()))
        self.same(follow(way, "", ()), (("stopped", 0, ""), 0, ("",), ()))
        self.same(follow(way_of(ALL, ("clerk", NONE)), "0", ()), (("stopped", 0, "0"), 0, ("0",), ()))
        # The least of several check signs; what is taken off is not looked at.
        self.same(follow(way_of(ALL, ("clerk", ALL)), "11", ()), (("arrived", "10"), 0, ("11", "10"), ()))
        self.same(follow(way_of(ALL, ("clerk", exactly("01", "01", "1"))), "00", ())[0], ("arrived", "01"))
        self.same(follow(way_of(ALL, ("clerk", exactly("01", "01", "1"))), "0", ())[0], ("arrived", "1"))
        self.same(follow(way_of(ALL, ("clerk", exactly("01", "01"))), "11", ())[0], ("stopped", 0, "11"))
        # Longer papers than may be passed.
        self.same(follow(way_of(ALL, ("spell", ("00", "11"), "", ""), ("clerk", EVEN)), "1" * 60, ())[0],
                  ("arrived", "1" * 120))

    def test_a_speller(self):
        self.same(follow(way_of(ALL, SPELL), "01", ()), (("arrived", "10110"), 0, ("01", "10110"), ()))
        self.same(follow(way_of(ALL, SPELL), "", ()), (("arrived", "10"), 0, ("", "10"), ()))
        self.same(follow(way_of(ALL, ("spell", ("1", "0"), "", "")), "0110", ())[0], ("arrived", "1001"))

    def test_an_echo(self):
        way = way_of(ALL, ("echo", SWAP, 0))
        self.same(follow(way, "01", (kept("01"),)), (("arrived", "01"), 0, ("01", "01"), ()))
        # The price of an echo that stops the paper counts, and it has slipped.
        self.same(follow(way, "01", ((("01", "10"),),)), (("stopped", 0, "01"), 1, ("01",), (0,)))
        way = way_of(ALL, ("hand", SWAP), ("echo", SWAP, 0))
        # A slip that hides another one: what comes is written, not what was read back.
        self.same(follow(way, "01", ((("01", "10"),), (("10", "01"),))),
                  (("arrived", "10"), 2, ("01", "10", "10"), (0, 1)))
        self.same(follow(way, "01", ((("01", "10"),), kept("10"))), (("stopped", 1, "10"), 1, ("01", "10"), (0,)))
        way = way_of(ALL, ("hand", SWAP), ("echo", SWAP, 1))
        self.same(follow(way, "01", ((("01", "10"),), kept("10"))), (("arrived", "10"), 1, ("01", "10", "10"), (0,)))

    def test_several_stations(self):
        way = way_of(ALL, ("hand", TURN), SPELL, ("clerk", EVEN), ("desk", EVEN), ("echo", LOST, 3), ("hand", SWAP))
        # Spelled 1 11 0 0, and the last sign anew makes the sum even.
        papers = ("00", "10", "11100", "11101", "11101")
        copyings = ((("0", "1"), ("0", "0")), kept("11101"))
        last = (("1", "1"), ("1", "1"), ("1", "1"), ("01", "10"))
        self.same(follow(way, "00", (*copyings, last)), (("arrived", "11110"), 2, (*papers, "11101", "11110"), (0, 5)))
        self.same(follow(way, "00", (copyings[0], (("11", "1"), *kept("101")), last)),
                  (("stopped", 4, "11101"), 2, papers, (0, 4)))

    def test_bad_numbers(self):
        way = way_of(EVEN, ("hand", TURN))
        for number in ("1", "2", "0" * 62, "00 ", "x", *ODD_THINGS):
            if number not in ("",):
                self.raises(BadNumber, {"paper": number}, follow, way, number, None)
                self.raises(BadNumber, {"paper": number}, clean_story, way, number)
        self.same(follow(way, "", ((),))[0], ("arrived", ""))
        self.raises(BadNumber, {"paper": ""}, follow, way_of(NONE), "", ())

    def test_bad_copyings(self):
        way = way_of(ALL, ("hand", TURN), ("desk", EVEN), ("echo", SWAP, 0))
        first = (("0", "1"), ("1", "0"))
        second = kept("10")
        deep = ("0", "1")
        for _ in range(190):
            deep = (deep, deep[0])
        bad = (True, None, 5, "", "01", first[0], ("0", "1"), (("0", "1"), 5), (("0", "1"), ("1", "2")), (("0", "1"), True),
               (("0", "1", 1), ("1", "0")), ((0, 1), (1, 0)), (["0", "1"], "10"), first[:1], (*first, ("0", "0")), (), [],
               kept("10"), (("01", "01"),), (("", ""), *first), (deep, deep), deep, {0: 1}, (("0", ["1"]), ("1", "0")))
        for thing in bad:
            self.raises(BadCopying, {"copying": 0}, follow, way, "01", (thing, second))
            self.raises(BadCopying, {"copying": 0}, follow, way, "01", (thing, None))
        for thing in (*bad[:-1], kept("01"), (("10", "10"),)):
            if thing != kept("10"):
                self.raises(BadCopying, {"copying": 1}, follow, way_of(ALL, ("hand", TURN), ("echo", SWAP, 0)), "01",
                            (first, thing))
        self.raises(BadCopying, {"copying": 0}, follow, way, "01", ())
        self.raises(BadCopying, {"copying": 1}, follow, way_of(ALL, ("hand", TURN), ("echo", SWAP, 0)), "01", (first,))
        self.raises(BadCopying, {"copying": 0}, follow, way, "01", [])

    def test_lists(self):
        way = way_of(ALL, ("hand", TURN), ("echo", SWAP, 1))
        self.same(follow(way, "01", [[["0", "1"], ("1", "0")], [["10", "01"]]]),
                  (("stopped", 1, "10"), 3, ("01", "10"), (0, 1)))

    def test_copyings_that_are_not_needed(self):
        way = way_of(ALL, ("hand", TURN), ("desk", EVEN), ("echo", SWAP, 0))
        wanted = (("stopped", 1, "10"), 0, ("10", "10"), ())
        for rest in ((), (None,), (True, 5), ("",), (kept("1"),)):
            self.same(follow(way, "10", (kept("10"), *rest)), wanted)
        self.same(follow(way, "11", (kept("11"), kept("11"), None)), (("arrived", "11"), 0, ("11",) * 4, ()))

    def test_against_slow_stories(self):
        dice = random.Random(233)
        ends = set()
        for _ in range(150):
            way = some_way(dice)
            for number in numbers_upto(way.series, 3)[:5]:
                told = set()

                def go(copyings):
                    try:
                        told.add(follow(way, number, tuple(copyings)))
                    except BadCopying as error:
                        self.assertEqual(error.copying, len(copyings))
                        # Which paper comes there is known from the stories that are told.
                        spent = sum(hand(copying)[2] for hand, copying in zip(hands, copyings))
                        for copying, price in copyings_upto(hands[len(copyings)], self.comes(way, number, copyings), 2):
                            if spent + price <= 2:
                                go([*copyings, copying])

                hands = [station[1] for station in way if station[0] in ("hand", "echo")]
                go([])
                self.assertEqual(told, set(stories_upto(way, number, 2)))
                ends |= {end[0] for end, _, _, _ in told}
        self.assertEqual(ends, {"arrived", "stopped"})

    def comes(self, way, number, copyings):
        """The paper for which a copying is lacking: the way ends ahead of this station."""
        places = [k for k, station in enumerate(way) if station[0] in ("hand", "echo")]
        return follow(way_of(way.series, *way.stations[:places[len(copyings)]]), number, tuple(copyings))[2][-1]


class TestCleanStory(Case):
    def test_each_kind_of_station(self):
        self.same(clean_story(way_of(ALL), "01"), (("arrived", "01"), 0, ("01",), ()))
        self.same(clean_story(way_of(ALL, ("hand", TURN), ("echo", LOST, 0), ("desk", EVEN)), "11"),
                  (("arrived", "11"), 0, ("11",) * 4, ()))
        self.same(clean_story(way_of(ALL, ("hand", TURN), ("desk", EVEN), SPELL), "1"),
                  (("stopped", 1, "1"), 0, ("1", "1"), ()))
        self.same(clean_story(way_of(ALL, SPELL, ("clerk", EVEN)), "01"),
                  (("arrived", "10111"), 0, ("01", "10110", "10111"), ()))
        self.same(clean_story(way_of(ALL, SPELL, ("echo", TURN, 0)), "01"),
                  (("stopped", 1, "10110"), 0, ("01", "10110"), ()))
        self.same(clean_story(way_of(ALL, SPELL, ("echo", TURN, 1)), "01"), (("arrived", "10110"), 0, ("01", "10110", "10110"), ()))
        self.same(clean_story(way_of(ALL, ("clerk", EVEN)), ""), (("stopped", 0, ""), 0, ("",), ()))

    def test_the_same_as_followed(self):
        dice = random.Random(239)
        for _ in range(200):
            way = some_way(dice)
            for number in numbers_upto(way.series, 3)[:4]:
                told = clean_story(way, number)
                self.same(told, stories_upto(way, number, 0, clean=True)[0])
                hands = [papers for papers, station in zip(told[2], way) if station[0] in ("hand", "echo")]
                self.same(follow(way, number, tuple(kept(paper) for paper in hands)), told)

    def test_the_house(self):
        way = way_of(example_series(), ("hand", example_hand()), ("desk", example_series()), ("echo", example_hand(), 0))
        number = example_series().walk.least_paper()
        self.same(clean_story(way, number), (("arrived", number), 0, (number,) * 4, ()))
