"""Promises [8] and [9]: slips, hands, pairs, pieces and copyings."""

import random

from brute import pairs_by
from handcarried.errors import BadCopying, BadName, BadSigns, BadSlip, TooMany, Twice, Unlike
from handcarried.hands import Hand, pairs_of
from helpers import ODD_THINGS, Case, example_hand

SWAP = ("swap", 1, (("xy", "yx"),))


def ordered(pairs):
    return tuple(sorted(pairs, key=lambda pair: [(len(paper), paper) for paper in pair[:2]]))


def some_pattern(dice, signs):
    marks = signs + "xyz"
    return ("".join(dice.choice(marks) for _ in range(dice.randrange(1, 4))),
            "".join(dice.choice(marks) for _ in range(dice.randrange(4))))


class TestPairs(Case):
    def test_the_patterns_of_the_document(self):
        self.same(pairs_of("012", (("xy", "yx"),)),
                  (("01", "10"), ("02", "20"), ("10", "01"), ("12", "21"), ("20", "02"), ("21", "12")))
        self.same(pairs_of("01", (("x", ""),)), (("0", ""), ("1", "")))
        self.same(pairs_of("01", (("xx", "yy"),)), (("00", "11"), ("11", "00")))
        self.same(pairs_of("012", (("1x", "x0"),)), (("10", "00"), ("11", "10"), ("12", "20")))

    def test_in_order_of_papers(self):
        self.same(pairs_of("01", (("xy", ""), ("x", "xx"), ("1", "0"), ("x", "yy"), ("1", ""))), (
            ("0", "00"), ("0", "11"), ("1", ""), ("1", "0"), ("1", "00"), ("1", "11"),
            ("00", ""), ("01", ""), ("10", ""), ("11", "")))

    def test_letters_that_stand_behind_alone(self):
        self.assertEqual(pairs_of("01", (("0", "x"),)), (("0", "1"),))
        self.assertEqual(pairs_of("01", (("0", "zz"),)), (("0", "00"), ("0", "11")))

    def test_no_pairs(self):
        self.same(pairs_of("01", ()), ())
        self.same(pairs_of("01", (("xyz", "xyz"), ("0", "0"), ("x", "x"))), ())

    def test_any_number_of_patterns(self):
        self.assertEqual(len(pairs_of("0123456789AB", (("xyz", "zyx"),))), 12 * 12 * 11)
        self.assertEqual(pairs_of("01", (("x", ""),) * 300), (("0", ""), ("1", "")))
        patterns = [["0" + one, two] for one in "01xyz" for two in ("", "0", "1", "x", "00", "x1")] * 8
        self.assertEqual(set(pairs_of("01", patterns)), set().union(*[pairs_by("01", pattern) for pattern in patterns]))

    def test_against_a_slow_look(self):
        dice = random.Random(19)
        for _ in range(150):
            patterns = [some_pattern(dice, "01A") for _ in range(dice.randrange(4))]
            wanted = set().union(*[pairs_by("01A", pattern) for pattern in patterns])
            self.same(pairs_of("01A", patterns), ordered(wanted))

    def test_bad_signs(self):
        self.raises(BadSigns, {"signs": "0"}, pairs_of, "0", (("x", ""),))


class TestSlips(Case):
    def bad(self, slips, number):
        self.raises(BadSlip, {"slip": number}, Hand, "some", "012", slips)

    def test_the_order_of_the_errors(self):
        self.raises(BadName, {"name": "hand"}, Hand, "hand", "0", 5)
        self.raises(BadSigns, {"signs": "0"}, Hand, "some", "0", 5)
        wide = ("wide", 1, (("xyz", "zyx"),))
        self.raises(BadSlip, {"slip": 2}, Hand, "some", "0123456789", (wide, wide, 5))
        self.raises(Twice, {"name": "wide"}, Hand, "some", "0123456789", (wide, SWAP, wide, SWAP))
        self.raises(TooMany, {"what": "pair"}, Hand, "some", "0123456789", (wide, SWAP))

    def test_the_whole(self):
        for slips in (None, True, 5, "", "01", b"01", {}, set(), {"a": 1}, len):
            self.bad(slips, -1)
        twelve = tuple((name, 1, (("0", "1"),)) for name in "abcdefghijklm")
        self.assertEqual(len(Hand("some", "012", twelve[:12]).slips), 12)
        self.bad(twelve, -1)
        self.bad((5,) * 13, -1)

    def test_bad_slips(self):
        for slip in (*ODD_THINGS, ("a", 1), ("a", 1, (("x", ""),), 0), ("A", 1, (("x", ""),)), ("", 1, (("x", ""),)),
                     ("slip", 1, (("x", ""),)), (5, 1, (("x", ""),)), ("a", 0, (("x", ""),)), ("a", 10, (("x", ""),)),
                     ("a", -1, (("x", ""),)), ("a", True, (("x", ""),)), ("a", "1", (("x", ""),)),
                     ("a", None, (("x", ""),)), ("a", 1.0, (("x", ""),)), ("a", 1, ()), ("a", 1, "x"), ("a", 1, "xy"),
                     ("a", 1, ("xy",)), ("a", 1, ("x", "")), ("a", 1, (("x", ""),) * 201), ("a", 1, None),
                     ("a", 1, {"x": ""}), "a1x", ["a", 1, 5]):
            self.bad((slip,), 0)
            self.bad([SWAP, slip, 5], 1)

    def test_bad_patterns(self):
        for pattern in (*ODD_THINGS, ("x",), ("x", "", ""), ("", "x"), ("xyz0", ""), ("x", "xyz0"), ("w", ""),
                        ("x", "a"), ("3", ""), ("x", "3"), ("X", ""), (1, ""), ("x", 1), ("x", None), (None, "x"),
                        (("x",), "y"), ("x", ("y",)), ("x ", ""), ("x", "-")):
            self.bad((("a", 1, (pattern,)),), 0)
            self.bad((("a", 1, (("x", ""), pattern)),), 0)

    def test_good_slips(self):
        for slip in (("a", 1, (("x", ""),)), ("abcdefgh", 9, (("xyz", "zyx"),)), ("a", 5, (("012", "210"),)),
                     ("a", 1, (("x", ""),) * 200), ("x", 1, (("0", "xyz"),)), ("a", 1, (("xyz", "xyz"),))):
            self.same(Hand("some", "012", (slip,)).slips, (slip,))

    def test_lists_are_kept_as_tuples(self):
        slips = [["a", 1, [["x", ""], ("xx", "x")]]]
        hand = Hand("some", "01", slips)
        slips[0][2].append(["1", "0"])
        slips[0][2][0][1] = "0"
        slips.append(5)
        self.same(hand.slips, (("a", 1, (("x", ""), ("xx", "x"))),))
        self.same(hand.pairs, (("0", "", 1), ("1", "", 1), ("00", "0", 1), ("11", "1", 1)))


class TestHand(Case):
    def test_pairs_have_their_least_prices(self):
        hand = Hand("some", "01", (("a", 5, (("x", "y"), ("01", "10"))), ("b", 2, (("0", "1"), ("xy", "yx"))),
                                   ("c", 7, (("0", "1"), ("1", "")))))
        self.same(hand.pairs, (("0", "1", 2), ("1", "", 7), ("1", "0", 5), ("01", "10", 2), ("10", "01", 2)))
        self.same(Hand("some", "01", ()).pairs, ())
        self.assertEqual((hand.name, hand.signs), ("some", "01"))

    def test_against_a_slow_look(self):
        dice = random.Random(23)
        for _ in range(80):
            slips = tuple((name, dice.randrange(1, 10), tuple(some_pattern(dice, "01") for _ in range(3)))
                          for name in "abc"[:dice.randrange(4)])
            prices = {}
            for _, price, patterns in slips:
                for pattern in patterns:
                    for pair in pairs_by("01", pattern):
                        prices[pair] = min(price, prices.get(pair, 9))
            if len(prices) <= 200:
                self.same(Hand("some", "01", slips).pairs,
                          ordered([(*pair, price) for pair, price in prices.items()]))

    def test_two_hundred_pairs(self):
        signs = "0123456789"
        hundred = ("a", 1, (("xy", "yx"), ("x", "")))
        self.assertEqual(len(Hand("some", signs, (hundred,)).pairs), 100)
        more = ("b", 2, (("xx", "yy"), ("x", "xx")))
        self.assertEqual(len(Hand("some", signs, (hundred, more)).pairs), 200)
        for one in (("c", 1, (("0", "1"),)), ("c", 1, (("00", ""),))):
            self.raises(TooMany, {"what": "pair"}, Hand, "some", signs, (hundred, more, one))
        # The same pairs again are no more pairs.
        self.assertEqual(len(Hand("some", signs, (hundred, more, ("c", 1, (("xy", "yx"), ("0", ""))))).pairs), 200)
        self.raises(TooMany, {"what": "pair"}, Hand, "some", "0123456789AB", (("a", 1, (("xyz", "zxy"),) * 200),))

    def test_equal(self):
        hand = Hand("some", "01", (("a", 1, (("x", ""),)),))
        self.assertTrue(hand == Hand("some", "01", [["a", 1, [["x", ""]]]]))
        for other in (Hand("other", "01", hand.slips), Hand("some", "012", hand.slips),
                      Hand("some", "01", (("b", 1, (("x", ""),)),)), Hand("some", "01", (("a", 2, (("x", ""),)),)),
                      Hand("some", "01", (("a", 1, (("0", ""), ("1", ""))),)), *ODD_THINGS, hand.slips, "some"):
            self.assertIs(hand == other, False)
            self.assertIs(hand != other, True)

    def test_added(self):
        a = Hand("first", "01", (("a", 3, (("x", ""), ("0", "1"))),))
        b = Hand("second", "01", (("b", 1, (("0", ""),)), ("c", 2, (("1", "0"),))))
        both = a + b
        self.assertEqual(both, Hand("first", "01", a.slips + b.slips))
        self.same(both.pairs, (("0", "", 1), ("0", "1", 3), ("1", "", 3), ("1", "0", 2)))
        self.assertEqual((a.name, a.slips, len(b.slips)), ("first", (("a", 3, (("x", ""), ("0", "1"))),), 2))

    def test_errors_of_what_is_added(self):
        slips = tuple((name, 1, (("0", "1"),)) for name in "abcdefg")
        seven = Hand("seven", "01", slips)
        self.raises(Unlike, {"what": "signs"}, lambda: seven + Hand("other", "02", ()))
        self.raises(BadSlip, {"slip": -1}, lambda: seven + seven)
        self.raises(Twice, {"name": "b"}, lambda: seven + Hand("other", "01", (slips[1],)))
        five = Hand("five", "01", tuple((name, 1, (("0", "1"),)) for name in "hijkl"))
        self.assertEqual(len((seven + five).slips), 12)
        signs = "0123456789"
        many = Hand("many", signs, (("a", 1, (("xx", "yy"), ("xy", "yx"))),))
        self.raises(TooMany, {"what": "pair"}, lambda: many + Hand("more", signs, (("b", 1, (("x", "y"),)),)))


class TestCopyings(Case):
    def setUp(self):
        self.hand = Hand("some", "012", (SWAP, ("lost", 3, (("x", ""),)), ("three", 9, (("012", "2"),))))

    def test_the_example(self):
        hand = Hand("some", "012", (SWAP,))
        self.same(hand((("01", "10"), ("2", "2"), ("2", "2"))), ("0122", "1022", 1))

    def test_copyings(self):
        hand = self.hand
        self.same(hand(()), ("", "", 0))
        self.same(hand([]), ("", "", 0))
        self.same(hand((("0", "0"),)), ("0", "0", 0))
        self.same(hand((("0", ""), ("12", "21"), ["1", "1"], ("012", "2"))), ("0121012", "2112", 13))
        self.same(hand([["0", ""]] * 70), ("0" * 70, "", 210))
        # Two slips together may bring the paper back.
        self.same(Hand("some", "01", (("a", 2, (("x", "y"),)),))((("0", "1"), ("1", "0"))), ("01", "10", 4))

    def test_things_that_are_no_copyings(self):
        for thing in ODD_THINGS:
            if thing not in ((), []) or thing.__class__ not in (tuple, list):
                self.raises(BadCopying, {"copying": thing}, self.hand, thing)
        for copying in ("00", ("00",), ["00", "11"], {("0", "0"): 1}, (("0", "0"), None), ("0", "0")):
            self.raises(BadCopying, {"copying": copying}, self.hand, copying)

    def test_things_that_are_nearly_pieces(self):
        for piece in (("0",), ("0", "0", "0"), ("0", "", 3), ("01", "10", 1), ("01", "01"), ("00", "00"), ("", ""),
                      ("", "0"), ("0", "1"), ("01", "11"), ("10", ""), ("x", "x"), ("3", "3"), ("3", ""), ("x", ""),
                      ("xy", "yx"), (0, 0), (0, ""), (None, None), ("0", None), ("0", 0), (("0",), ("0",)),
                      (["0"], "0"), ("0", ["0"]), (True, True), ("0 ", "0 "), {"0": "0"}, {"0", "1"}, "01", b"00",
                      ("12", "21 "), ((), ())):
            copying = [("0", "0"), piece, ("1", "1")]
            self.raises(BadCopying, {"copying": copying}, self.hand, copying)
            self.raises(BadCopying, {"copying": copying}, self.hand, copying)

    def test_pieces_of_another_hand(self):
        other = example_hand()
        self.same(other((("3", "3"), ("11", "1"))), ("311", "31", 2))
        self.raises(BadCopying, {}, self.hand, (("3", "3"), ("11", "1")))
        self.same(self.hand((("1", ""),)), ("1", "", 3))

    def test_what_is_passed_stays(self):
        copying = [["0", ""], ("1", "1")]
        self.hand(copying)
        self.assertEqual(copying, [["0", ""], ("1", "1")])
