"""Promise [23]: ways and their stations."""

from handcarried.errors import BadName, BadWay, TooMany, Unlike
from handcarried.hands import Hand
from handcarried.series import Series
from handcarried.ways import Way
from helpers import ODD_THINGS, Case, free_series

SERIES = free_series("own", "01")
OTHER = free_series("other", "02")
HAND = Hand("hear", "01", (("a", 1, (("x", "y"),)),))
FOREIGN = Hand("foreign", "012", ())
DESK = ("desk", SERIES)


class TestStations(Case):
    def good(self, *stations):
        for station in stations:
            self.assertEqual(Way("wayx", SERIES, (station,)).stations, (station,))
            self.assertEqual(Way("wayx", SERIES, [list(station)]).stations, (station,))

    def bad(self, station, ahead=()):
        stations = [*ahead, station, 5]
        self.raises(BadWay, {"station": len(ahead)}, Way, "some", SERIES, stations)
        self.raises(BadWay, {"station": len(ahead) + 1}, Way, "some", SERIES, (DESK, *stations))

    def test_hands_desks_and_clerks(self):
        self.good(("hand", HAND), ("desk", SERIES), ("clerk", SERIES), ("desk", free_series("next", "01")))
        for station in (("hand", SERIES), ("hand", "hear"), ("hand",), ("hand", HAND, 0), ("hand", None),
                        ("desk", HAND), ("desk",), ("desk", SERIES, SERIES), ("desk", "own"), ("desk", SERIES.walk),
                        ("clerk", HAND), ("clerk",), ("clerk", SERIES, 0), ("clerk", None), ("echo",), ("spell",),
                        ("spelt", ("0", "1"), "", ""), (None, ("0", "1"), "", "")):
            self.bad(station)

    def test_spellers(self):
        self.good(("spell", ("0", "1"), "", ""), ("spell", ("00", "00"), "01", "10"), ("spell", ("1", "01"), "1", ""))
        for station in (("spell", ("0",), "", ""), ("spell", ("0", "1", "1"), "", ""), ("spell", ("0", ""), "", ""),
                        ("spell", ("0", "111"), "", ""), ("spell", ("0", "2"), "", ""), ("spell", "01", "", ""),
                        ("spell", ("0", 1), "", ""), ("spell", ("0", None), "", ""), ("spell", ("0", "1"), "000", ""),
                        ("spell", ("0", "1"), "", "000"), ("spell", ("0", "1"), "2", ""), ("spell", ("0", "1"), "", "x"),
                        ("spell", ("0", "1"), None, ""), ("spell", ("0", "1"), "", ("0",)), ("spell", ("0", "1"), ""),
                        ("spell", ("0", "1"), "", "", ""), ("spell", ("0", "1")), ("spell", None, "", "")):
            self.bad(station)

    def test_texts_are_of_the_signs_of_the_series(self):
        wide = free_series("wide", "0AZ")
        station = ("spell", ("0", "AZ", "Z"), "Z", "AA")
        self.assertEqual(Way("some", wide, (station,)).stations, (station,))
        self.bad(station)

    def test_an_echo_tells_a_paper_up_to_its_own(self):
        for many in range(10):
            ahead = (DESK,) * many
            for paper in range(many + 1):
                self.assertEqual(len(Way("some", SERIES, (*ahead, ("echo", HAND, paper)))), many + 1)
            self.raises(BadWay, {"station": many}, Way, "some", SERIES, (*ahead, ("echo", HAND, many + 1)))
            self.raises(BadWay, {"station": many}, Way, "some", SERIES, (*ahead, ("echo", HAND, -1)))
        for station in (("echo", HAND), ("echo", SERIES, 0), ("echo", HAND, True), ("echo", HAND, False),
                        ("echo", HAND, None), ("echo", HAND, "0"), ("echo", HAND, 0, 0), ("echo", HAND, 0.0)):
            self.bad(station)

    def test_other_things_are_no_stations(self):
        for thing in (*ODD_THINGS, "hand", "desk", ("Desk", SERIES), ("",), (None, SERIES), (SERIES, "desk"),
                      (["desk"], SERIES), (HAND, HAND), SERIES, HAND, {"desk": SERIES}, ("house", HAND)):
            self.bad(thing)


class TestWay(Case):
    def test_the_order_of_the_errors(self):
        four = (("hand", HAND),) * 4
        self.raises(BadName, {"name": "way"}, Way, "way", SERIES, 5)
        self.raises(BadWay, {"station": -1}, Way, "some", SERIES, (5,) * 11)
        self.raises(BadWay, {"station": 5}, Way, "some", SERIES, (*four, ("desk", OTHER), 5))
        self.raises(Unlike, {"what": "signs"}, Way, "some", SERIES, (*four, ("desk", OTHER)))
        self.raises(TooMany, {"what": "hand"}, Way, "some", SERIES, four)

    def test_the_whole(self):
        for stations in (None, True, 5, "", "01", {}, set(), HAND, SERIES, len):
            self.raises(BadWay, {"station": -1}, Way, "some", SERIES, stations)
        self.assertEqual(len(Way("some", SERIES, (DESK,) * 10)), 10)
        self.raises(BadWay, {"station": -1}, Way, "some", SERIES, (DESK,) * 11)
        self.assertEqual(Way("some", SERIES, ()).stations, ())

    def test_unlike_signs(self):
        for station in (("hand", FOREIGN), ("desk", OTHER), ("clerk", OTHER), ("echo", FOREIGN, 0)):
            self.raises(Unlike, {"what": "signs"}, Way, "some", SERIES, (station,))
            self.raises(Unlike, {"what": "signs"}, Way, "some", SERIES, [DESK, list(station)])

    def test_three_hands_or_echoes(self):
        hand, echo = ("hand", HAND), ("echo", HAND, 0)
        self.assertEqual(len(Way("some", SERIES, (hand, echo, DESK, hand, ("clerk", SERIES)))), 5)
        for stations in ((hand,) * 4, (echo,) * 4, (hand, echo, DESK, echo, DESK, hand)):
            self.raises(TooMany, {"what": "hand"}, Way, "some", SERIES, stations)

    def test_what_it_tells(self):
        stations = [["spell", ["0", "11"], "", "1"], ["desk", SERIES], ["echo", HAND, 1]]
        way = Way("some", SERIES, stations)
        stations[0][1][0] = "1"
        stations[1][0] = "clerk"
        stations.append(5)
        wanted = (("spell", ("0", "11"), "", "1"), ("desk", SERIES), ("echo", HAND, 1))
        self.assertEqual(way.stations, wanted)
        self.assertEqual([station.__class__ for station in way.stations], [tuple] * 3)
        self.assertEqual(way.stations[0][1].__class__, tuple)
        self.assertEqual((way.name, way.signs, len(way)), ("some", "01", 3))
        self.assertIs(way.series, SERIES)
        self.assertEqual(list(way), list(wanted))
        self.assertEqual([station[0] for station in way], ["spell", "desk", "echo"])

    def test_equal(self):
        way = Way("some", SERIES, (DESK, ("hand", HAND)))
        self.assertTrue(way == Way("some", free_series("own", "01"), [["desk", free_series("own", "01")],
                                                                     ["hand", Hand("hear", "01", HAND.slips)]]))
        for other in (Way("next", SERIES, way.stations), Way("some", free_series("owns", "01"), way.stations),
                      Way("some", SERIES, (DESK,)), Way("some", SERIES, (("hand", HAND), DESK)),
                      Way("some", SERIES, (("clerk", SERIES), ("hand", HAND))),
                      Way("some", SERIES, (("desk", free_series("own", "01", ("not", ("any",)))), ("hand", HAND))),
                      Way("some", SERIES, (DESK, ("echo", HAND, 0))), *ODD_THINGS, way.stations, SERIES):
            self.assertIs(way == other, False)
            self.assertIs(way != other, True)
        self.assertFalse(Way("some", SERIES, (DESK, ("echo", HAND, 0))) == Way("some", SERIES, (DESK, ("echo", HAND, 1))))

    def test_a_series_without_numbers(self):
        none = Series("none", "01", (("run", "a", "01", 0, None),), ("not", ("any",)))
        self.assertEqual(Way("some", none, (("desk", none),)).series, none)
