"""Promise [30]: desks put into ways and left out of them, the best lot, needless desks."""

import random
from itertools import combinations

from handcarried.desks import Desks, needless_desks, with_desks, without_desk
from handcarried.errors import BadGap, BadPoint, CarryError, TooMany, Unlike
from handcarried.hands import Hand
from handcarried.stories import clean_story
from handcarried.trust import Trust, lie_price
from handcarried.ways import Way
from helpers import ODD_THINGS, Case, example_hand, example_series, free_series
from some_ways import ALL, EVEN, NONE, SPELL, STILL, SWAP, TURN, little_series, some_way, way_of
from test_crossings import exactly, rounds

ODD = free_series("odds", "01", ("sum", 2, (1,), 1))
THREES = free_series("threes", "01", ("sum", 3, (1,), 0))
OTHER = free_series("other", "012")


class TestWithDesks(Case):
    def test_where_the_desks_stand(self):
        way = way_of(ALL, ("hand", TURN), SPELL)
        gaps = ((2, EVEN, 5), (0, ODD, 1), (1, THREES, 99), (0, ALL, 7))
        self.assertEqual(with_desks(way, gaps, ()), way)
        self.assertEqual(with_desks(way, gaps, (0,)).stations, (*way.stations, ("desk", EVEN)))
        self.assertEqual(with_desks(way, gaps, (1,)).stations, (("desk", ODD), *way.stations))
        # Desks for one station stand in the order of the gaps.
        self.assertEqual(with_desks(way, gaps, (0, 1, 2, 3)).stations, (
            ("desk", ODD), ("desk", ALL), ("hand", TURN), ("desk", THREES), SPELL, ("desk", EVEN)))
        self.assertEqual(with_desks(way, [list(gap) for gap in gaps], [1, 3]).stations[:2], (("desk", ODD), ("desk", ALL)))
        self.assertEqual(with_desks(way, gaps, (2,)).name, "some")
        self.assertEqual(with_desks(way_of(ALL), ((0, EVEN, 1), (0, ODD, 1)), (0, 1)).stations,
                         (("desk", EVEN), ("desk", ODD)))

    def test_the_papers_with_which_echoes_compare(self):
        for paper, wanted in ((0, 0), (1, 2), (2, 4)):
            way = way_of(ALL, ("hand", TURN), SPELL, ("echo", STILL, paper))
            gaps = ((0, ALL, 1), (1, EVEN, 1), (2, ODD, 1), (3, ALL, 1))
            built = with_desks(way, gaps, (0, 1, 2, 3))
            self.assertEqual([station[0] for station in built], ["desk", "hand", "desk", "spell", "desk", "echo", "desk"])
            # What a station writes has the number behind this station, whatever desk is right behind it.
            self.assertEqual(built.stations[5], ("echo", STILL, wanted))
            self.assertEqual(with_desks(way, gaps, (0,)).stations[3], ("echo", STILL, 0 if paper == 0 else paper + 1))
            self.assertEqual(with_desks(way, gaps, (paper,)).stations[-1 if paper < 3 else -2],
                             ("echo", STILL, paper if paper else 0))
        way = way_of(ALL, ("echo", STILL, 0), ("echo", TURN, 1))
        self.assertEqual(with_desks(way, ((0, ALL, 1), (1, ALL, 1)), (0, 1)).stations[3], ("echo", TURN, 2))

    def test_the_papers_stay_what_they_are(self):
        dice = random.Random(277)
        for _ in range(200):
            way = some_way(dice, 4)
            gaps = tuple((dice.randrange(len(way) + 1), ALL, 1) for _ in range(dice.randrange(1, 4)))
            built = with_desks(way, gaps, tuple(range(len(gaps))))
            # Desks that let everything by change no story.
            for number in ("", "0", "01", "110"):
                if number in way.series:
                    one, other = clean_story(way, number), clean_story(built, number)
                    self.assertEqual(one[0][0], other[0][0])
                    self.assertEqual(one[0][-1], other[0][-1])
            if len(built) == len(way) + 1:
                place = min(k for k in range(len(built)) if built.stations[k:k + 1] != way.stations[k:k + 1])
                self.assertEqual(without_desk(built, place), way)

    def test_bad_gaps(self):
        way = way_of(ALL, ("hand", TURN), SPELL)
        good = (0, EVEN, 1)
        for gaps in (*[thing for thing in ODD_THINGS if thing not in ((), [])], (good,) * 5, (None,) * 5, "01", good[1]):
            if gaps != (1, 2):
                self.raises(BadGap, {"gap": -1}, with_desks, way, gaps, ())
                self.raises(BadGap, {"gap": -1}, Desks, way, gaps)
        self.raises(BadGap, {"gap": 0}, with_desks, way, (1, 2), ())
        for gap in (*ODD_THINGS, (0, EVEN), (0, EVEN, 1, 1), (-1, EVEN, 1), (3, EVEN, 1), (True, EVEN, 1), (None, EVEN, 1),
                    ("0", EVEN, 1), (0, None, 1), (0, "even", 1), (0, TURN, 1), (0, EVEN.walk, 1), (0, EVEN, 0),
                    (0, EVEN, 100), (0, EVEN, True), (0, EVEN, None), (0, EVEN, "1"), (0, EVEN, -1), (0.0, EVEN, 1)):
            for k in range(4):
                gaps = (*[(0, OTHER, 1)] * k, gap, None)[:4]
                self.raises(BadGap, {"gap": k}, with_desks, way, gaps, ())
                self.raises(BadGap, {"gap": k}, Desks, way, gaps)
        for place in range(3):
            for price in (1, 99):
                self.assertEqual(len(with_desks(way, ((place, EVEN, price),), (0,))), 3)

    def test_unlike_signs(self):
        way = way_of(ALL, ("hand", TURN))
        self.raises(Unlike, {"what": "signs"}, with_desks, way, ((0, EVEN, 1), (1, OTHER, 1)), ())
        self.raises(Unlike, {"what": "signs"}, Desks, way, ((1, OTHER, 1),))
        # Ahead of too many stations.
        self.raises(Unlike, {"what": "signs"}, with_desks, way_of(ALL, *[("desk", ALL)] * 10), ((0, EVEN, 1), (1, OTHER, 1)), (0,))

    def test_too_many_stations(self):
        way = way_of(ALL, *[("desk", ALL)] * 8)
        gaps = ((0, EVEN, 1), (8, EVEN, 1), (3, ODD, 1))
        self.assertEqual(len(with_desks(way, gaps, (0, 2))), 10)
        self.raises(TooMany, {"what": "station"}, with_desks, way, gaps, (0, 1, 2))


class TestWithoutDesk(Case):
    def test_the_station_is_gone(self):
        way = way_of(ALL, ("desk", EVEN), ("hand", TURN), ("desk", ODD), SPELL)
        self.assertEqual(without_desk(way, 0).stations, way.stations[1:])
        self.assertEqual(without_desk(way, 2).stations, (*way.stations[:2], SPELL))
        self.assertEqual(without_desk(way, 2).name, "some")
        self.assertEqual(without_desk(way_of(ALL, ("desk", EVEN)), 0), way_of(ALL))

    def test_the_papers_with_which_echoes_compare(self):
        for paper, wanted in ((0, 0), (1, 1), (2, 1), (3, 2)):
            way = way_of(ALL, ("hand", TURN), ("desk", EVEN), ("hand", SWAP), ("echo", STILL, paper))
            self.assertEqual(without_desk(way, 1).stations, (("hand", TURN), ("hand", SWAP), ("echo", STILL, wanted)))
        way = way_of(ALL, ("desk", EVEN), ("echo", STILL, 0), ("echo", STILL, 1), ("echo", STILL, 3))
        self.assertEqual(without_desk(way, 0).stations, (("echo", STILL, 0), ("echo", STILL, 0), ("echo", STILL, 2)))
        # Echoes ahead of the desk stay as they are.
        way = way_of(ALL, ("hand", TURN), ("echo", STILL, 1), ("desk", EVEN))
        self.assertEqual(without_desk(way, 2).stations, way.stations[:2])

    def test_bad_points(self):
        way = way_of(ALL, ("hand", TURN), ("desk", EVEN), ("clerk", ALL), SPELL, ("echo", TURN, 0))
        for thing in (*ODD_THINGS, 0, 2, 3, 4, 5, 6, -1, -4, True, 1.0, "1", (1,), 10 ** 39):
            self.raises(BadPoint, {"point": thing}, without_desk, way, thing)
        self.assertEqual(len(without_desk(way, 1)), 4)
        for thing in (-1, -2, 2):
            self.raises(BadPoint, {"point": thing}, without_desk, way_of(ALL, ("desk", EVEN), ("desk", ALL)), thing)


class TestNeedlessDesks(Case):
    def test_no_desk_and_one_desk(self):
        self.same(needless_desks(way_of(ALL)), ())
        # No table is made for a way without desks.
        large = way_of(rounds(3), ("hand", TURN), ("clerk", rounds(29)), ("clerk", rounds(23)))
        self.raises(TooMany, {"what": "entry"}, Trust, large)
        self.same(needless_desks(large), ())
        self.same(needless_desks(way_of(EVEN, ("hand", TURN), ("desk", EVEN))), ())
        self.same(needless_desks(way_of(EVEN, ("desk", EVEN), ("hand", TURN))), (0,))
        self.same(needless_desks(way_of(EVEN, ("desk", EVEN))), (0,))

    def test_several_desks(self):
        way = way_of(EVEN, ("desk", EVEN), ("hand", TURN), ("desk", EVEN))
        self.same(needless_desks(way), (0,))
        self.same(needless_desks(way, most=0), (0, 2))
        self.same(needless_desks(way, most=2), (0,))
        # For a price of 1 nothing slips here at all.
        dear = Hand("dear", "01", (("a", 2, (("x", "y"),)),))
        self.same(needless_desks(way_of(EVEN, ("hand", dear), ("desk", EVEN))), (1,))
        self.same(needless_desks(way_of(EVEN, ("hand", dear), ("desk", EVEN)), most=2), ())
        # Each of both alone will do, so both are needless.
        self.same(needless_desks(way_of(EVEN, ("hand", TURN), ("desk", EVEN), ("desk", EVEN))), (1, 2))
        # A lie price of another height.
        self.same(needless_desks(way_of(exactly("01", "00", "11"), ("hand", TURN), ("desk", EVEN)), most=2), ())
        self.same(needless_desks(way_of(exactly("01", "00", "11"), ("hand", TURN), ("desk", ALL)), most=2), (1,))

    def test_against_lie_prices(self):
        dice = random.Random(281)
        seen = set()
        for _ in range(120):
            way = some_way(dice, 4, ("hand", "desk", "desk", "echo", "spell"))
            most = dice.randrange(3)
            try:
                desks = [k for k, station in enumerate(way) if station[0] == "desk"]
                price = lie_price(way, most=most) if desks else None
                wanted = tuple(k for k in desks if lie_price(without_desk(way, k), most=most) == price)
            except TooMany:
                self.raises(TooMany, {"what": "entry"}, needless_desks, way, most=most)
                continue
            self.same(needless_desks(way, most=most), wanted)
            seen.add(len(wanted))
        self.assertLessEqual({0, 1, 2}, seen)


class TestDesks(Case):
    def test_a_way_that_is_trusted_as_it_is(self):
        way = way_of(EVEN, ("hand", TURN), ("desk", EVEN))
        for gaps in ((), [], ((0, EVEN, 1),)):
            told = Desks(way, gaps)
            self.same((bool(told), told.lot, told.price, told.shut), (True, (), 0, ()))
            self.assertEqual(told.way, way)

    def test_the_best_lot(self):
        way = way_of(EVEN, ("hand", TURN), ("hand", SWAP))
        gaps = ((0, EVEN, 1), (1, EVEN, 3), (2, EVEN, 2), (2, exactly("01", "00"), 2))
        told = Desks(way, gaps)
        self.assertIs(bool(told), True)
        # The swap of a number with an even sum has an even sum again.
        self.same((told.lot, told.price), ((3,), 2))
        self.same(told.shut, (((), (1, ("0", "1", "1"))), ((0,), (1, ("0", "0", "1", "1"))), ((2,), told.shut[2][1])))
        self.assertEqual(told.way, with_desks(way, gaps, (3,)))
        self.assertTrue(Trust(told.way))

    def test_no_lot(self):
        way = way_of(ALL, ("hand", TURN))
        told = Desks(way, ((0, EVEN, 2), (1, ALL, 1)))
        self.same((bool(told), told.lot, told.price, told.way), (False, None, None, None))
        self.same(told.shut, (((), (1, ("0", "1"))), ((1,), (1, ("0", "1", "1"))), ((0,), (1, ("0", "0", "1"))),
                              ((0, 1), (1, ("0", "0", "1", "1")))))

    def test_the_order_of_the_lots(self):
        way = way_of(ALL, ("hand", TURN))
        gaps = ((1, ALL, 3), (1, ALL, 1), (1, ALL, 2), (1, ALL, 3))
        told = Desks(way, gaps)
        lots = [lot for many in range(5) for lot in combinations(range(4), many)]
        wanted = sorted(lots, key=lambda lot: (sum(gaps[k][2] for k in lot), len(lot), lot))
        self.same(tuple(lot for lot, _ in told.shut), tuple(wanted))
        self.assertEqual(wanted[:7], [(), (1,), (2,), (0,), (3,), (1, 2), (0, 1)])

    def test_too_many_stations_when_their_turn_comes(self):
        # The cheapest lot has one desk; a lot of three is too many, but its turn does not come.
        way = way_of(EVEN, ("hand", TURN), *[("desk", ALL)] * 7)
        gaps = ((0, ALL, 1), (0, ALL, 1), (0, ALL, 1), (8, EVEN, 3))
        told = Desks(way, gaps)
        self.same((told.lot, told.price), ((3,), 3))
        gaps = ((0, ALL, 1), (0, ALL, 1), (0, ALL, 1), (8, EVEN, 4))
        self.raises(TooMany, {"what": "station"}, Desks, way, gaps)
        self.raises(TooMany, {"what": "station"}, Desks, way_of(ALL, ("hand", TURN), *[("desk", ALL)] * 9), ((0, ALL, 1),))
        # A table that is too large is found out when its turn comes, too.
        large = way_of(rounds(3), ("hand", TURN), ("clerk", rounds(29)), ("clerk", rounds(23)))
        self.raises(TooMany, {"what": "entry"}, Desks, large, ())

    def test_most(self):
        way = way_of(EVEN, ("hand", TURN))
        gaps = ((1, EVEN, 1), (1, rounds(1, name="r"), 1))
        self.same(Desks(way, gaps, most=0).lot, ())
        self.same(Desks(way, gaps).lot, (0,))
        self.same(Desks(way, gaps, most=2).lot, None)

    def test_the_house(self):
        series, hand = example_series(), example_hand()
        way = Way("post", series, (("hand", hand), ("echo", hand, 0)))
        told = Desks(way, ((0, series, 1), (1, series, 1)))
        self.assertEqual(bool(told), told.lot is not None)

    def test_desks_lies_and_prices_agree(self):
        dice = random.Random(283)
        seen = []
        for _ in range(80):
            way, most = some_way(dice, 2), dice.randrange(3)
            gaps = tuple((dice.randrange(len(way) + 1), little_series(dice), dice.randrange(1, 5))
                         for _ in range(dice.randrange(4)))
            lots = [lot for many in range(5) for lot in combinations(range(len(gaps)), many)]
            lots.sort(key=lambda lot: (sum(gaps[k][2] for k in lot), len(lot), lot))
            try:
                told = Desks(way, gaps, most=most)
            except CarryError as error:
                self.assertEqual(error.what, "entry")
                continue
            shut = []
            best = None
            for lot in lots:
                trust = Trust(with_desks(way, gaps, lot), most=most)
                self.same(lie_price(with_desks(way, gaps, lot), most=most), trust.lie and trust.lie[0])
                if trust:
                    best = lot
                    break
                shut.append((lot, trust.lie))
            self.same(told.lot, best)
            self.same(told.price, None if best is None else sum(gaps[k][2] for k in best))
            self.same(told.shut, tuple(shut))
            self.assertEqual(told.way, None if best is None else with_desks(way, gaps, best))
            seen.append((told.lot is None, len(told.shut)))
        self.assertTrue(any(lot and many for lot, many in seen))
        self.assertTrue(any(not lot and many for lot, many in seen))
        self.assertTrue(any(not lot and not many for lot, many in seen))


class TestNames(Case):
    def test_hands_without_slips_need_no_desk(self):
        self.assertTrue(Desks(way_of(ALL, ("hand", Hand("still", "01", ())), ("desk", NONE)), ()))
