"""Promises [38] and [40]: the lines of a house."""

from handcarried.errors import (
    BadForm, BadLine, BadRule, BadSlip, BadWay, TooMany, Twice, Unknown, Unlike,
)
from handcarried.hands import Hand
from handcarried.house import House
from handcarried.housetext import house_lines, read_house, write_house
from handcarried.parttext import write_hand, write_series, write_way
from handcarried.series import Series
from handcarried.ways import Way
from helpers import ODD_THINGS, Case, example_hand, example_series, free_series

EXAMPLE = (
    "signs 0123",
    "series member",
    "run branch 01 1 1",
    "run serial 0123 1 any",
    "rule both sum 4 1,3 0 not square 1,0,0,0/1,1,1,1 1",
    "hand phone",
    "slip swap 1 xy yx",
    "slip lost 2 x - xx x",
    "way post member",
    "hand phone",
    "desk member",
    "echo phone 0",
)


def example_house():
    series, hand = example_series(), example_hand()
    return House("0123", (series,), (hand,), (
        Way("post", series, (("hand", hand), ("desk", series), ("echo", hand, 0))),))


def with_line(number, line):
    """The example with another line in the place of this one."""
    return (*EXAMPLE[:number], line, *EXAMPLE[number + 1:])


class TestWritten(Case):
    def test_the_example(self):
        house = example_house()
        self.same(write_house(house), EXAMPLE)
        self.same(list(house_lines(house)), list(EXAMPLE))
        self.assertEqual(read_house(EXAMPLE), house)
        self.assertEqual(read_house(list(EXAMPLE)), house)

    def test_parts(self):
        series = Series("own", "01A", (("words", "kind", ("0", "1A", "AAAA")), ("run", "b", "0A", 0, 12),
                                       ("run", "c", "1", 12, None)), ("cut", 0, 1, ("any",)))
        self.same(write_series(series), ("series own", "words kind 0,1A,AAAA", "run b 0A 0 12", "run c 1 12 any",
                                         "rule cut 0 1 any"))
        hand = Hand("hear", "01A", (("a", 9, (("xyz", ""), ("0", "zyx"))), ("b", 1, (("A1", "x"),))))
        self.same(write_hand(hand), ("hand hear", "slip a 9 xyz - 0 zyx", "slip b 1 A1 x"))
        self.same(write_hand(Hand("deaf", "01A", ())), ("hand deaf",))
        way = Way("path", series, (("clerk", series), ("spell", ("0", "11", "A0"), "", "1"), ("desk", series),
                                   ("spell", ("0", "1", "A"), "A0", ""), ("echo", hand, 3), ("hand", hand)))
        self.same(write_way(way), ("way path own", "clerk own", "spell 0,11,A0 - 1", "desk own", "spell 0,1,A A0 -",
                                   "echo hear 3", "hand hear"))
        self.same(write_way(Way("short", series, ())), ("way short own",))
        house = House("01A", (series,), (hand, Hand("deaf", "01A", ())), (way, Way("short", series, ())))
        self.assertEqual(read_house(write_house(house)), house)
        self.same(write_house(house), ("signs 01A", *write_series(series), *write_hand(hand), "hand deaf",
                                       *write_way(way), "way short own"))

    def test_houses_that_lack_something(self):
        for house in (House("01", (), (), ()), House("01", (), (Hand("a", "01", ()),), ()),
                      House("01", (free_series("a", "01"),), (), ())):
            self.assertEqual(read_house(write_house(house)), house)
        self.same(write_house(House("09", (), (), ())), ("signs 09",))

    def test_long_lines(self):
        marks = [(a + b, c) for a in "0123456789AB" for b in "0123456789AB" for c in ("0", "")]
        slip = ("a", 1, tuple(marks[:200]))
        house = House("0123456789AB", (), (Hand("long", "0123456789AB", (slip,)),), ())
        lines = write_house(house)
        self.assertEqual(len(lines[2].split(" ")), 403)
        self.assertEqual(read_house(lines), house)

    def test_things_that_are_not_of_the_house(self):
        own, other = example_series(), free_series("member")
        hand, quiet = example_hand(), Hand("phone", "0123", ())
        stranger, friend = free_series("stranger"), Hand("friend", "0123", ())
        for series, stations, name in (
                (other, (("hand", quiet),), "member"), (own, (("hand", quiet), ("desk", other)), "phone"),
                (own, (("hand", hand), ("desk", other), ("hand", quiet)), "member"),
                (own, (("clerk", stranger), ("hand", quiet)), "stranger"), (own, (("echo", friend, 0),), "friend"),
                (stranger, (("desk", other),), "stranger"),
                (own, (("spell", ("0", "1", "2", "3"), "", ""), ("echo", quiet, 0)), "phone")):
            good = Way("good", own, (("desk", own), ("hand", hand)))
            house = House("0123", (own,), (hand,), (good, Way("bad", series, stations),
                                                    Way("worse", free_series("worse"), ())))
            self.raises(Unknown, {"name": name}, write_house, house)
            lines = house_lines(house)
            self.raises(Unknown, {"name": name}, next, lines)

    def test_the_things_only_have_to_be_equal(self):
        house = House("0123", (example_series(),), (example_hand(),), (
            Way("post", example_series(), (("hand", example_hand()),)),))
        self.assertEqual(write_house(house)[-1], "hand phone")

    def test_a_hand_with_the_name_of_a_series(self):
        series, hand = free_series("same"), Hand("same", "0123", ())
        house = House("0123", (series,), (hand,), (Way("same", series, (("hand", hand), ("desk", series))),))
        self.assertEqual(read_house(write_house(house)), house)
        self.raises(Unknown, {"name": "same"}, write_house, House("0123", (series,), (), house.ways))

    def test_lines_do_nothing_before_they_are_gone_through(self):
        house = House("0123", (), (), (Way("post", example_series(), ()),))
        lines = house_lines(house)
        self.raises(Unknown, {"name": "member"}, list, lines)


class TestBadLines(Case):
    def bad(self, lines, line, word):
        self.raises(BadLine, {"line": line, "word": word}, read_house, lines)

    def test_too_few_lines(self):
        self.bad((), 0, 0)
        self.bad([], 0, 0)
        for many in (2, 3, 4):
            self.bad(EXAMPLE[:many], many, 0)
        for many in (1, 5, 6, 7, 8, 9, 10, 11, 12):
            self.assertEqual(read_house(EXAMPLE[:many]).signs, "0123")

    def test_lines_that_cannot_come_here(self):
        self.bad(EXAMPLE[1:], 0, 0)
        self.bad((EXAMPLE[0], *EXAMPLE), 1, 0)
        for first in ("run branch 01 1 1", "rule any", "slip a 1 x -", "desk member", "words a 0", "", "other"):
            self.bad((EXAMPLE[0], first, "series"), 1, 0)
        self.bad((*EXAMPLE[:2], "rule any"), 2, 0)
        self.bad((*EXAMPLE[:2], "series other"), 2, 0)
        self.bad((*EXAMPLE[:3], "hand phone"), 3, 0)
        for first in ("run a 0 0 any", "rule any", "signs 0123", "slip a 1 x -", "desk member", "echo phone 0"):
            self.bad((*EXAMPLE[:5], first), 5, 0)
        for first in ("series a", "run a 0 0 any", "rule any", "desk member", "clerk member", "signs 01"):
            self.bad((*EXAMPLE[:6], first), 6, 0)
            self.bad((*EXAMPLE[:7], first), 7, 0)
        for first in ("series a", "slip a 1 x -", "run a 0 0 any", "rule any", "signs 01", "post"):
            self.bad((*EXAMPLE[:9], first), 9, 0)
            self.bad((*EXAMPLE, first), 12, 0)

    def test_hands_stand_ahead_of_the_first_way(self):
        self.bad((*EXAMPLE[:9], "hand phone", "slip a 1 x -"), 10, 0)
        self.bad((*EXAMPLE[:9], "hand phone x"), 9, 2)

    def test_lines_that_are_no_strings(self):
        for number in range(len(EXAMPLE)):
            for thing in (None, 5, True, ("signs", "0123"), ["hand phone"], b"desk member"):
                self.bad(with_line(number, thing), number, 0)

    def test_empty_words(self):
        for number, line in enumerate(EXAMPLE):
            many = len(line.split(" "))
            self.bad(with_line(number, ""), number, 0)
            self.bad(with_line(number, " " + line), number, 0)
            self.bad(with_line(number, line + " "), number, many)
            words = line.split(" ")
            for at in range(1, many):
                spoilt = " ".join([*words[:at], "", *words[at:]])
                self.bad(with_line(number, spoilt), number, at)

    def test_lines_that_end_too_early(self):
        for number, line in enumerate(EXAMPLE):
            words = line.split(" ")
            for many in range(1, len(words)):
                # A slip may end behind each of its patterns.
                if not (words[0] == "slip" and many in (5, 7)):
                    self.bad(with_line(number, " ".join(words[:many])), number, many)

    def test_a_word_too_much(self):
        for number, line in enumerate(EXAMPLE):
            if not line.startswith("slip"):
                self.bad(with_line(number, line + " x"), number, len(line.split(" ")))

    def test_signs(self):
        for word in ("0", "10", "0123456789ABC", "ab", "00", "-", "any"):
            self.bad(with_line(0, f"signs {word}"), 0, 1)

    def test_names(self):
        for word in ("", "series", "any", "Member", "member9", "memberabc", "m-"):
            self.bad(with_line(1, f"series {word}"), 1, 1)
            self.bad(with_line(2, f"run {word} 01 1 1"), 2, 1)
            self.bad(with_line(2, f"words {word} 01"), 2, 1)
            self.bad(with_line(5, f"hand {word}"), 5, 1)
            self.bad(with_line(6, f"slip {word} 1 xy yx"), 6, 1)
            self.bad(with_line(8, f"way {word} member"), 8, 1)
            self.bad(with_line(8, f"way post {word}"), 8, 2)
            for kind in ("hand", "desk", "clerk", "echo"):
                self.bad(with_line(9, f"{kind} {word} 0"), 9, 1)

    def test_fields(self):
        twelve = "0123456789AB"
        for line, word in ((f"run a {twelve}C 0 any", 2), ("run a 10 0 any", 2), ("run a 00 0 any", 2),
                           ("run a x 0 any", 2), ("run a - 0 any", 2), ("run a 0 13 any", 3), ("run a 0 01 any", 3),
                           ("run a 0 any any", 3), ("run a 0 -1 any", 3), ("run a 0 0 0", 4), ("run a 0 0 13", 4),
                           ("run a 0 0 Any", 4), ("run a 0 0 none", 4), ("run a 0 0 01", 4), ("words a 00000", 2),
                           ("words a 0,,1", 2), ("words a ,0", 2), ("words a 0,", 2), ("words a x", 2),
                           ("words a -", 2), (f"words a {','.join('0123456789ABC')}", 2), ("runs a 0 0 any", 0)):
            self.bad(with_line(2, line), 2, word)
        for line in ("words a 0", "words a 0000", "words a 0,11,222,3333",
                     f"words a {','.join('0' + a + b for a in '012' for b in '0123')}", "run a 0 0 any",
                     "run a 0123 12 12", "run a 3 0 1"):
            self.assertEqual(write_house(read_house(with_line(2, line)))[2], line)
        lines = ("signs 01", "series a", f"run b {twelve} 12 12", "rule any")
        self.raises(BadForm, {"field": 0}, read_house, lines)

    def test_slips(self):
        for line, word in (("slip a 0 x -", 2), ("slip a 10 x -", 2), ("slip a 01 x -", 2), ("slip a x x -", 2),
                           ("slip a 1 - x", 3), ("slip a 1 xyz0 x", 3), ("slip a 1 w x", 3), ("slip a 1 x,y x", 3),
                           ("slip a 1 x xyz0", 4), ("slip a 1 x a", 4), ("slip a 1 x --", 4), ("slip a 1 x", 4),
                           ("slip a 1 x - y", 6), ("slip a 1 x - y - -", 7), ("slip a 1", 3)):
            self.bad(with_line(6, line), 6, word)

    def test_stations(self):
        for line, word in (("spell 0 - -", 1), ("spell 0,111 - -", 1), ("spell 0,x - -", 1), ("spell 0,- - -", 1),
                           ("spell 0,1, - -", 1), (f"spell {','.join('0123456789ABC')} - -", 1),
                           ("spell 0,1 000 -", 2), ("spell 0,1 x -", 2), ("spell 0,1 - 000", 3), ("spell 0,1 - --", 3),
                           ("spell 0,1 -", 3), ("spell 0,1", 2), ("spell", 1), ("spell 0,1 - - -", 4),
                           ("echo phone 11", 2), ("echo phone 00", 2), ("echo phone -", 2), ("echo phone", 2),
                           ("clerk member x", 2), ("clerk", 1)):
            self.bad(with_line(9, line), 9, word)

    def test_rules(self):
        for line, word in (("rule", 1), ("rule no", 1), ("rule any any", 2), ("rule both any", 3),
                           ("rule sum 4 1,3 60", 4), ("rule " + "not " * 40 + "any", 41), ("rules any", 0)):
            self.bad(with_line(4, line), 4, word)

    def test_the_first_bad_word_of_all(self):
        self.bad((*EXAMPLE[:4], "rule no", "hand 5", 5), 4, 1)
        # Lines go ahead of the objects: here the first series has two fields of one name.
        self.bad((*EXAMPLE[:3], EXAMPLE[2], *EXAMPLE[4:], "desk"), 12, 1)


class TestObjects(Case):
    def fails(self, kind, told, *lines):
        self.raises(kind, told, read_house, ("signs 01", *lines))

    def test_their_own_errors_in_order(self):
        series = ("series a", "run b 01 0 any", "rule any")
        self.fails(Twice, {"name": "b"}, "series a", "run b 01 0 any", "run b 01 0 any", "rule sum 2 5 0",
                   "hand c", "slip d 1 2 -")
        self.fails(BadForm, {"field": 1}, "series a", "run b 01 0 any", "run c 2 0 any", "rule any")
        self.fails(BadForm, {"field": 0}, "series a", "run b 01 5 4", "rule any")
        self.fails(BadForm, {"field": 0}, "series a", "words b 0,0", "rule any")
        self.fails(BadForm, {"field": -1}, "series a", *[f"run {name} 01 0 any" for name in "abcdefg"], "rule any")
        with self.assertRaises(BadRule) as caught:
            read_house(("signs 01", *series, "series b", "run b 01 0 any", "rule not sum 2 5 0", "hand c",
                        "slip d 1 2 -"))
        self.same(caught.exception.rule, ("sum", 2, (5,), 0))
        self.fails(TooMany, {"what": "standing"}, "series a", "run b 01 0 any", "rule sum 59 1,3,7 0")
        self.fails(BadSlip, {"slip": 0}, *series, "hand c", "slip d 1 2 -", "way w z")
        self.fails(BadSlip, {"slip": -1}, "hand c", *[f"slip {name} 1 0 1" for name in "abcdefghijklm"])
        self.fails(BadSlip, {"slip": 0}, "hand c", "slip d 1" + " 0 1" * 201)
        self.fails(Twice, {"name": "d"}, "hand c", "slip d 1 0 1", "slip d 1 0 1", "way w z")
        self.fails(BadWay, {"station": 0}, *series, "way w a", "spell 0,1,1 - -")
        self.fails(BadWay, {"station": 0}, *series, "hand h", "way w a", "echo h 1")
        self.fails(BadWay, {"station": -1}, *series, "way w a", *["desk a"] * 11)
        self.fails(TooMany, {"what": "hand"}, *series, "hand h", "way w a", *["hand h"] * 4, "way v z")
        self.fails(Twice, {"name": "a"}, *series, *series)
        self.fails(Twice, {"name": "h"}, "hand h", "hand g", "hand h")
        self.fails(Twice, {"name": "w"}, *series, "way w a", "way w a")
        self.fails(TooMany, {"what": "series"}, *series * 7)
        self.fails(TooMany, {"what": "hand"}, *["hand h"] * 7)
        self.fails(TooMany, {"what": "way"}, *series, *["way w a"] * 7)

    def test_names_that_nothing_has(self):
        series = ("series a", "run b 01 0 any", "rule any")
        self.fails(Unknown, {"name": "z"}, *series, "way w z", "spell 0,1,1 - -")
        self.fails(Unknown, {"name": "z"}, "way w z", "hand y", "desk x")
        self.fails(Unknown, {"name": "y"}, *series, "way w a", "hand y", "desk x")
        self.fails(Unknown, {"name": "x"}, *series, "hand y", "way w a", "hand y", "desk x", "hand u")
        self.fails(Unknown, {"name": "a"}, *series, "way w a", "echo a 0")
        self.fails(Unknown, {"name": "y"}, *series, "hand y", "way w a", "clerk y")
        # A name that is not there goes ahead of the way's own errors, but not of those of a way ahead.
        self.fails(Unknown, {"name": "z"}, *series, "way w a", *["desk a"] * 10, "desk z")
        self.fails(BadWay, {"station": -1}, *series, "way w a", *["desk a"] * 11, "way v z")
        self.fails(Unknown, {"name": "z"}, *series, *series, "way w z")

    def test_what_was_read_is_tuples(self):
        house = read_house(EXAMPLE)
        self.same(house.serieses[0].form, example_series().form)
        self.same(house.serieses[0].rule, example_series().rule)
        self.same(house.hands[0].slips, example_hand().slips)
        self.assertEqual([station.__class__ for station in house.ways[0].stations], [tuple] * 3)

    def test_unlike_never_comes_of_lines(self):
        try:
            read_house(EXAMPLE)
        except Unlike:
            self.fail()

    def test_asked_again(self):
        lines = list(EXAMPLE)
        first = read_house(lines)
        self.raises(BadLine, {"line": 0, "word": 0}, read_house, ODD_THINGS)
        self.assertEqual(read_house(lines), first)
        self.assertEqual(lines, list(EXAMPLE))
