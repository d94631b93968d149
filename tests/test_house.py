"""Promise [38]: houses."""

from handcarried.errors import BadSigns, TooMany, Twice, Unknown, Unlike
from handcarried.hands import Hand
from handcarried.house import House
from handcarried.ways import Way
from helpers import ODD_THINGS, Case, free_series

NAMES = "abcdefg"


def some_series(name, signs="01"):
    return free_series(name, signs)


def some_hand(name, signs="01"):
    return Hand(name, signs, (("a", 1, (("x", ""),)),))


def some_way(name, signs="01"):
    return Way(name, some_series("own", signs), (("hand", some_hand("hear", signs)),))


def all_of(make, many):
    return [make(name) for name in NAMES[:many]]


class TestHouse(Case):
    def test_what_it_tells(self):
        serieses, hands, ways = all_of(some_series, 2), all_of(some_hand, 3), all_of(some_way, 1)
        house = House("01", serieses, hands, ways)
        serieses.append(5)
        del hands[0]
        self.assertEqual(house.signs, "01")
        self.assertEqual(house.serieses, tuple(all_of(some_series, 2)))
        self.assertEqual(house.hands, tuple(all_of(some_hand, 3)))
        self.assertEqual(house.ways, tuple(all_of(some_way, 1)))
        self.assertEqual([things.__class__ for things in (house.serieses, house.hands, house.ways)], [tuple] * 3)
        empty = House("01", (), (), ())
        self.assertEqual((empty.serieses, empty.hands, empty.ways), ((), (), ()))

    def test_bad_signs(self):
        for signs in ("0", "10", "0123456789ABC", None, ["0", "1"]):
            self.raises(BadSigns, {"signs": signs}, House, signs, all_of(some_series, 7), (), ())

    def test_six_of_each_kind(self):
        house = House("01", all_of(some_series, 6), all_of(some_hand, 6), all_of(some_way, 6))
        self.assertEqual((len(house.serieses), len(house.hands), len(house.ways)), (6, 6, 6))
        self.raises(TooMany, {"what": "series"}, House, "01", all_of(some_series, 7), (), ())
        self.raises(TooMany, {"what": "hand"}, House, "01", (), all_of(some_hand, 7), ())
        self.raises(TooMany, {"what": "way"}, House, "01", (), (), all_of(some_way, 7))

    def test_the_order_of_the_errors(self):
        twice = [some_series("a"), some_series("b"), some_series("b"), some_series("a")]
        hands = [some_hand("c"), some_hand("d"), some_hand("d")]
        ways = [some_way("e"), some_way("e")]
        foreign = [some_series("z", "02")]
        self.raises(TooMany, {"what": "series"}, House, "01", twice * 2, hands * 3, ways * 4)
        self.raises(TooMany, {"what": "hand"}, House, "01", twice, hands * 3, ways * 4)
        self.raises(TooMany, {"what": "way"}, House, "01", twice, hands, ways * 4)
        self.raises(Twice, {"name": "b"}, House, "01", foreign + twice, hands, ways)
        self.raises(Twice, {"name": "d"}, House, "01", foreign, hands, ways)
        self.raises(Twice, {"name": "e"}, House, "01", foreign, hands[:2], ways)
        self.raises(Unlike, {"what": "signs"}, House, "01", foreign, hands[:2], ways[:1])

    def test_names_of_unlike_kinds_may_be_the_same(self):
        house = House("01", [some_series("a")], [some_hand("a")], [some_way("a")])
        self.assertEqual(house.series_named("a").name, "a")

    def test_unlike_signs(self):
        self.raises(Unlike, {"what": "signs"}, House, "01", [some_series("a"), some_series("b", "012")], (), ())
        self.raises(Unlike, {"what": "signs"}, House, "01", (), [some_hand("a", "012")], ())
        self.raises(Unlike, {"what": "signs"}, House, "01", (), (), [some_way("a"), some_way("b", "02")])
        self.raises(Unlike, {"what": "signs"}, House, "012", all_of(some_series, 1), (), ())

    def test_named(self):
        house = House("01", all_of(some_series, 3), all_of(some_hand, 2), all_of(some_way, 3))
        self.assertIs(house.series_named("c"), house.serieses[2])
        self.assertIs(house.hand_named("b"), house.hands[1])
        self.assertIs(house.way_named("a"), house.ways[0])
        for call in (house.series_named, house.hand_named, house.way_named):
            for name in ("z", "", "A", "series", "not a name"):
                self.raises(Unknown, {"name": name}, call, name)
        self.raises(Unknown, {"name": "c"}, house.hand_named, "c")

    def test_equal(self):
        house = House("01", all_of(some_series, 2), all_of(some_hand, 2), all_of(some_way, 2))
        self.assertTrue(house == House("01", tuple(all_of(some_series, 2)), tuple(all_of(some_hand, 2)),
                                       tuple(all_of(some_way, 2))))
        for other in (House("01", house.serieses[::-1], house.hands, house.ways),
                      House("01", house.serieses, house.hands[:1], house.ways),
                      House("01", house.serieses, house.hands, ()), *ODD_THINGS, house.ways, "house"):
            self.assertIs(house == other, False)
            self.assertIs(house != other, True)
        self.assertFalse(House("01", (), (), ()) == House("02", (), (), ()))
