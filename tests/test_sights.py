"""Promise [28]: sights, their suspects, and who surely or perhaps slipped."""

import random

from brute import led, numbers_upto, papers_upto
from brute_ways import first_state, go_on, is_left_out, suspects_upto
from handcarried.errors import BadSight, TooMany
from handcarried.hands import Hand
from handcarried.sights import perhaps, surely, suspects
from helpers import ODD_THINGS, Case, example_hand, example_series, free_series
from some_ways import ALL, EVEN, LOST, NONE, SPELL, STILL, SWAP, TURN, some_way, way_of
from test_crossings import exactly, rounds


def slow_suspects(way, sight, most):
    """How many tuples come up, and the suspects."""
    many = sight[1] if sight[0] == "stopped" else len(way)
    paper = sight[-1]
    ahead = way.stations[:many]
    walk = way.series.walk

    def wrong(node):
        at, states, spent, _, written = node
        return (walk.least_paper(at) is None or spent > most or written is None
                or any(is_left_out(*pair) for pair in zip(ahead, states)))

    def on(node, text, ending):
        at, states, spent, slipped, written = node
        for price, to, texts, lot in go_on(way, ahead, states, text, ending):
            more = written + len(texts[-1]) if paper.startswith(texts[-1], written) else None
            yield (led(walk, at, text), to, spent + price, tuple(sorted({*slipped, *lot})), more)

    begun = (0, tuple(first_state(station) for station in ahead), 0, (), 0)
    found = [] if wrong(begun) else [begun]
    seen = set(found)
    prices = {}
    for node in found:
        for sign in way.signs:
            for behind in on(node, sign, False):
                if behind not in seen and not wrong(behind):
                    seen.add(behind)
                    found.append(behind)
        if node[0] in walk.goals:
            for at, _, spent, lot, written in on(node, "", True):
                if written == len(paper) and spent <= most:
                    prices[lot] = min(spent, prices.get(lot, spent))
        if len(found) > 6000:
            break
    if sight[0] == "stopped":
        desk = way.stations[many][1].walk
        if led(desk, 0, paper) in desk.goals:
            prices = {}
    return len(found), tuple(sorted((price, lot) for lot, price in prices.items()))


class TestSuspects(Case):
    def told(self, way, sight, most, wanted):
        self.same(suspects(way, sight, most=most), wanted)
        self.same(slow_suspects(way, sight, most)[1], wanted)
        lots = [set(lot) for _, lot in wanted]
        sure = set.intersection(*lots) if lots else set()
        self.same(surely(way, sight, most=most), tuple(sorted(sure)))
        self.same(perhaps(way, sight, most=most), tuple(sorted(set().union(*lots) - sure)))

    def test_arrivals(self):
        way = way_of(exactly("01", "01", "00"), ("hand", SWAP), ("hand", TURN))
        self.told(way, ("arrived", "01"), 0, ((0, ()),))
        self.told(way, ("arrived", "01"), 2, ((0, ()), (1, (1,))))
        self.told(way, ("arrived", "10"), 0, ())
        self.told(way, ("arrived", "10"), 1, ((1, (0,)), (1, (1,))))
        self.told(way, ("arrived", "10"), 3, ((1, (0,)), (1, (1,))))
        self.told(way, ("arrived", "11"), 1, ((1, (1,)),))
        self.told(way, ("arrived", "11"), 2, ((1, (1,)), (2, (0, 1))))
        self.told(way, ("arrived", "0"), 6, ())
        self.told(way, ("arrived", ""), 6, ())

    def test_desks(self):
        way = way_of(EVEN, ("hand", TURN), ("desk", EVEN), ("hand", SWAP), ("desk", exactly("01", "00", "01")))
        self.told(way, ("stopped", 1, "1"), 1, ((1, (0,)),))
        self.told(way, ("stopped", 1, "1"), 0, ())
        # The desk would let this paper by.
        self.told(way, ("stopped", 1, "11"), 2, ())
        self.told(way, ("stopped", 3, "11"), 2, ((0, ()), (2, (0,))))
        self.told(way, ("stopped", 3, "00"), 2, ())
        self.told(way, ("arrived", "00"), 2, ((0, ()), (2, (0,))))
        self.told(way, ("stopped", 3, "011"), 2, ((0, ()), (1, (2,)), (2, (0,))))

    def test_order_by_price_then_lots(self):
        hand = Hand("some", "01", (("a", 2, (("0", "1"),)),))
        way = way_of(exactly("01", "0"), ("hand", hand), ("hand", TURN), ("hand", hand))
        self.told(way, ("arrived", "1"), 6, ((1, (1,)), (2, (0,)), (2, (2,)), (5, (0, 1, 2))))
        self.same(surely(way, ("arrived", "1"), most=6), ())
        self.same(perhaps(way, ("arrived", "1"), most=6), (0, 1, 2))
        self.same(surely(way, ("arrived", "1")), (1,))
        self.same((suspects(way, ("arrived", "1")), perhaps(way, ("arrived", "1"))), (((1, (1,)),), ()))
        way = way_of(exactly("01", "0"), ("hand", TURN), ("hand", TURN), ("hand", hand))
        self.same(perhaps(way, ("arrived", "1")), (0, 1))
        self.same(perhaps(way, ("arrived", "1"), most=2), (0, 1, 2))
        self.same(perhaps(way, ("arrived", "1"), most=0), ())

    def test_surely_and_perhaps(self):
        # A telephone that must hide what the hand did.
        way = way_of(exactly("01", "0"), ("hand", TURN), ("echo", TURN, 0), ("hand", SWAP))
        self.told(way, ("arrived", "1"), 2, ((2, (0, 1)),))
        self.same(surely(way, ("arrived", "1"), most=2), (0, 1))
        self.same(perhaps(way, ("arrived", "1"), most=2), ())
        way = way_of(exactly("01", "00"), ("hand", TURN), ("hand", SWAP))
        self.told(way, ("arrived", "01"), 2, ((1, (0,)), (2, (0, 1))))
        self.same((surely(way, ("arrived", "01"), most=2), perhaps(way, ("arrived", "01"), most=2)), ((0,), (1,)))
        # Without suspects nobody slipped, surely or perhaps.
        self.same((surely(way, ("arrived", ""), most=2), perhaps(way, ("arrived", ""), most=2)), ((), ()))

    def test_what_is_written_at_the_end(self):
        way = way_of(exactly("01", "0"), SPELL, ("hand", TURN))
        self.told(way, ("arrived", "100"), 0, ((0, ()),))
        self.told(way, ("arrived", "101"), 1, ((1, (1,)),))
        self.told(way, ("arrived", "101"), 0, ())
        way = way_of(ALL, ("hand", LOST), ("clerk", EVEN), ("desk", NONE))
        self.told(way, ("stopped", 2, "0"), 2, ((0, ()), (1, (0,)), (2, (0,)))[:2])
        self.told(way, ("stopped", 2, "1"), 6, ())

    def test_stations_behind_the_desk_do_not_matter(self):
        way = way_of(ALL, ("hand", TURN), ("desk", EVEN), ("hand", TURN), ("clerk", NONE), ("desk", NONE))
        self.told(way, ("stopped", 1, "1"), 1, ((0, ()), (1, (0,))))
        self.told(way, ("stopped", 4, "1"), 1, ())
        self.told(way, ("arrived", "1"), 1, ())

    def test_sixty_signs(self):
        way = way_of(ALL, ("hand", SWAP), ("echo", STILL, 0))
        self.told(way, ("arrived", "01" * 30), 0, ((0, ()),))
        self.told(way_of(rounds(30), ("hand", TURN)), ("arrived", "01" * 30), 1, ((0, ()), (1, (0,))))

    def test_bad_sights(self):
        way = way_of(ALL, ("hand", TURN), ("desk", EVEN), ("clerk", ALL), SPELL, ("echo", TURN, 0))
        deep = ()
        for _ in range(190):
            deep = (deep,)
        for sight in (*ODD_THINGS, deep, "arrived", ("arrived",), ("arrived", "0", "0"), ("arrived", 1, "0"),
                      ("arrived", "0" * 61), ("arrived", "2"), ("arrived", "x"), ("arrived", None), ("arrived", 0),
                      ("arrived", True), ("arrived", ("0",)), ("arrived", ["0"]), ("arrived", b"0"), ("Arrived", "0"),
                      (None, "0"), (True, "0"), ("", "0"), ("stopped", "0"), ("stopped", 1), ("stopped", 1, "0", "0"),
                      ("stopped", 0, "0"), ("stopped", 2, "0"), ("stopped", 3, "0"), ("stopped", 4, "0"),
                      ("stopped", 5, "0"), ("stopped", -4, "0"), ("stopped", True, "0"), ("stopped", "1", "0"),
                      ("stopped", None, "0"), ("stopped", 1.0, "0"), ("stopped", (1,), "0"), ("stopped", 1, "0" * 61),
                      ("stopped", 1, "02"), ("stopped", 1, None), ("stopped", 1, True), ("stopped", 1, ["0"]),
                      (["arrived"], "0"), ("arrived", deep), ("stopped", deep, "0")):
            for call in (suspects, surely, perhaps):
                self.raises(BadSight, {"sight": sight}, call, way, sight)
                self.raises(BadSight, {"sight": sight}, call, way, sight, most=0)
        last = way_of(ALL, ("desk", EVEN))
        for k in (-1, 1, 2):
            self.raises(BadSight, {}, suspects, last, ("stopped", k, "0"))
        for sight in (("arrived", ""), ["arrived", "0"], ["stopped", 1, "1" * 60], ("stopped", 1, "")):
            suspects(way, sight, most=0)

    def test_five_thousand_tuples(self):
        hand = Hand("some", "01", (("a", 1, (("11", "1"),)),))
        zeros = ("spell", ("0", "0"), "", "")
        way = way_of(free_series("s", "01", ("sum", 50, (43,), 0)), ("hand", hand), zeros)
        sight = ("arrived", "0" * 49)
        self.assertEqual(slow_suspects(way, sight, 1)[0], 5000)
        self.same(suspects(way, sight), slow_suspects(way, sight, 1)[1])
        hand = Hand("some", "01", (("a", 2, (("y", "z10"), ("111", ""))), ("b", 2, (("x", "10"),))))
        series = free_series("s", "01", ("sum", 28, (19,), 0))
        way = way_of(series, ("hand", hand), zeros)
        sight = ("arrived", "0" * 41)
        self.assertEqual(slow_suspects(way, sight, 2)[0], 5001)
        for call in (suspects, surely, perhaps):
            self.raises(TooMany, {"what": "suspect"}, call, way, sight, most=2)
        # Also where the desk would let the paper by, and there are no suspects.
        way = way_of(series, ("hand", hand), zeros, ("desk", ALL), ("desk", NONE))
        for k in (2, 3):
            self.raises(TooMany, {"what": "suspect"}, suspects, way, ("stopped", k, "0" * 41), most=2)
        self.same(suspects(way, ("stopped", 2, "0" * 10), most=2), ())
        self.assertEqual(len(suspects(way, ("stopped", 3, "0" * 10), most=2)), 2)

    def test_the_house(self):
        series, hand = example_series(), example_hand()
        way = way_of(series, ("hand", hand), ("desk", series), ("hand", hand), ("desk", series))
        # What no single slip of the first hand can hide was slipped by the second one.
        for paper in papers_upto("0123", 3)[10:24]:
            for sight in (("stopped", 1, paper), ("stopped", 3, paper), ("arrived", paper)):
                self.told(way, sight, 1, slow_suspects(way, sight, 1)[1])

    def test_against_slow_looks(self):
        dice = random.Random(263)
        seen = []
        for _ in range(60):
            way, most = some_way(dice), dice.randrange(3)
            numbers = numbers_upto(way.series, 2)
            stories = suspects_upto(way, numbers, most)
            sights = [end for end in stories if end[0] == "arrived" or way.stations[end[1]][0] == "desk"]
            sights += [("arrived", paper) for paper in ("0", "110")]
            for sight in sights[:8] + sights[-4:]:
                if len(sight[-1]) > 4:
                    continue
                many, wanted = slow_suspects(way, sight, most)
                if many > 5000:
                    self.raises(TooMany, {"what": "suspect"}, suspects, way, sight, most=most)
                    continue
                self.told(way, sight, most, wanted)
                # Each story is told, perhaps with a longer number for a lower price.
                for lot, price in stories.get(sight, {}).items():
                    self.assertTrue(any(lot == other and least <= price for least, other in wanted))
                seen.append(len(wanted))
        self.assertLessEqual({0, 1, 2}, set(seen))
