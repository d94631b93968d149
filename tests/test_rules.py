"""Promise [5]: rules."""

import random

from brute import papers_upto, right_by
from handcarried.errors import BadPaper, BadRule, BadSigns, TooMany
from handcarried.rules import check_rule, is_right, rule_walk
from handcarried.walks import Walk
from helpers import ODD_THINGS, Case

ANY = ("any",)
SQUARE = ("square", ((0, 1, 2), (1, 2, 0), (2, 0, 1)), (0,))


def some_rule(dice, signs, deep):
    words = ["sum", "square", "any"]
    if deep:
        words += ["faces", "back", "cut", "both", "either", "not"] * 2
    word = dice.choice(words)
    if word == "sum":
        modulus = dice.randrange(2, 5)
        weights = tuple(dice.randrange(modulus) for _ in range(dice.randrange(1, 4)))
        return (word, modulus, weights, dice.randrange(modulus))
    if word == "square":
        many = dice.randrange(1, 4)
        rows = tuple(tuple(dice.randrange(many) for _ in signs) for _ in range(many))
        return (word, rows, tuple(sorted(dice.sample(range(many), dice.randrange(1, many + 1)))))
    if word == "faces":
        faces = tuple("".join(dice.choice(signs) for _ in signs) for _ in range(dice.randrange(1, 4)))
        return (word, faces, some_rule(dice, signs, deep - 1))
    if word == "cut":
        return (word, dice.randrange(4), dice.randrange(4), some_rule(dice, signs, deep - 1))
    inner = {"back": 1, "not": 1, "both": 2, "either": 2, "any": 0}[word]
    return (word, *[some_rule(dice, signs, deep - 1) for _ in range(inner)])


def listed(thing):
    """The thing with lists in the place of its tuples."""
    return [listed(inner) for inner in thing] if isinstance(thing, tuple) else thing


class TestForm(Case):
    def bad(self, rule, *parts):
        """The rule is refused for this part, or for itself."""
        part = parts[0] if parts else rule
        for call in (check_rule, rule_walk):
            self.raises(BadRule, {"rule": part}, call, "012", rule)
        self.raises(BadRule, {"rule": part}, is_right, "012", rule, "x")

    def good(self, *rules):
        for rule in rules:
            self.same(check_rule("012", rule), rule)
            self.same(check_rule("012", listed(rule)), rule)

    def test_signs_go_ahead(self):
        for call in (lambda: check_rule("10", 5), lambda: rule_walk("10", 5), lambda: is_right("10", 5, 5)):
            self.raises(BadSigns, {"signs": "10"}, call)
        self.raises(BadRule, {"rule": 5}, is_right, "01", 5, "2")
        self.raises(BadPaper, {"paper": "2"}, is_right, "01", ANY, "2")

    def test_things_that_are_no_rules(self):
        for thing in ODD_THINGS:
            self.bad(thing)
        for rule in (("all",), ("",), (5,), (None,), (ANY,), ("any", ANY), ("any", ""), "any", ["any", 0], ("ANY",),
                     (["any"],), ("any",) * 5):
            self.bad(rule)

    def test_sum(self):
        self.good(("sum", 2, (0,), 0), ("sum", 60, (59,) * 8, 59), ("sum", 10, (1, 3, 9), 7), ("sum", 2, (1,), 1))
        for rule in (("sum", 1, (0,), 0), ("sum", 61, (0,), 0), ("sum", 0, (0,), 0), ("sum", -2, (0,), 0),
                     ("sum", 10, (), 0), ("sum", 10, (1,) * 9, 0), ("sum", 10, (10,), 0), ("sum", 10, (-1,), 0),
                     ("sum", 10, (1,), 10), ("sum", 10, (1,), -1), ("sum", 10, 1, 0), ("sum", 10, "1", 0),
                     ("sum", 10, ("1",), 0), ("sum", "10", (1,), 0), ("sum", 10, (1,), None), ("sum", 10, (1,)),
                     ("sum", 10, (1,), 0, 0), ("sum", True, (0,), 0), ("sum", 10, (True,), 0), ("sum", 10, (1,), True),
                     ("sum", 10, (1, False), 0), ("sum", 10, (1,), False), ("sum", 2.0, (1,), 0), ("sum",),
                     ("sum", 10 ** 40, (1,), 0), ("sum", None, None, None)):
            self.bad(rule)

    def test_square(self):
        row = ((0, 0, 0),)
        self.good(("square", row, (0,)), ("square", row * 60, (0, 59)), SQUARE)
        for rule in (("square", (), (0,)), ("square", row * 61, (0,)), ("square", row, ()), ("square", row, (1,)),
                     ("square", row, (0, 0)), ("square", row * 2, (1, 0)), ("square", ((0, 0),), (0,)),
                     ("square", ((0, 0, 1),), (0,)), ("square", ((0, 0, -1),), (0,)), ("square", row, 0),
                     ("square", row, (True,)), ("square", ((0, 0, False),), (0,)), ("square", row, (0,), ANY),
                     ("square", row), ("square", "000", (0,)), ("square", ("000",), (0,)), ("square", row, "0"),
                     ("square", (0, 0, 0), (0,)), ("square",)):
            self.bad(rule)

    def test_faces(self):
        self.good(("faces", ("012",), ANY), ("faces", ("012", "000", "210", "111"), ANY))
        for rule in (("faces", (), ANY), ("faces", ("012",) * 5, ANY), ("faces", ("01",), ANY),
                     ("faces", ("0123",), ANY), ("faces", ("013",), ANY), ("faces", "012", ANY),
                     ("faces", (("0", "1", "2"),), ANY), ("faces", ("012", 12), ANY), ("faces", ("012",)),
                     ("faces", ("012",), ANY, ANY), ("faces", ("",), ANY), ("faces",), ("faces", None, ANY)):
            self.bad(rule)

    def test_cut(self):
        self.good(("cut", 0, 0, ANY), ("cut", 3, 3, ANY), ("cut", 0, 1, ANY))
        for rule in (("cut", 4, 0, ANY), ("cut", 0, 4, ANY), ("cut", -1, 0, ANY), ("cut", 0, -1, ANY),
                     ("cut", True, 0, ANY), ("cut", 0, False, ANY), ("cut", None, 0, ANY), ("cut", "1", 0, ANY),
                     ("cut", 0, ANY), ("cut", 0, 0), ("cut", 0, 0, ANY, ANY), ("cut",)):
            self.bad(rule)

    def test_back_both_either_not(self):
        self.good(("back", ANY), ("not", ANY), ("both", ANY, SQUARE), ("either", SQUARE, ANY))
        for word in ("back", "not"):
            for rule in ((word,), (word, ANY, ANY), [word]):
                self.bad(rule)
        for word in ("both", "either"):
            for rule in ((word,), (word, ANY), (word, ANY, ANY, ANY), [word, ANY]):
                self.bad(rule)

    def test_the_first_bad_part(self):
        bad, worse = ["sum", 1, [0], 0], ("no",)
        self.bad(("both", bad, worse), bad)
        self.bad(("either", ("not", ("back", worse)), bad), worse)
        self.bad(("both", ANY, bad), bad)
        self.bad(("faces", ("012",), ("cut", 0, 0, bad)), bad)
        # The part itself goes ahead of its inner rules, which only have to be there.
        outer = ("cut", 4, 0, worse)
        self.bad(outer)
        self.bad(["not", outer], outer)
        self.bad(("faces", (), bad))
        self.bad(("both", bad, worse, bad))
        self.bad(("both", None, bad), None)
        whole = ["both", ["both", ANY, bad], worse]
        self.bad(whole, bad)

    def test_as_it_was_passed(self):
        inner = ["sum", 5, [5], 0]
        self.bad(["not", inner], inner)
        self.bad([["any"]])

    def test_lists_are_kept_as_tuples(self):
        weights = [1, 2]
        rule = ["both", ["sum", 3, weights, 0], ["square", [[0, 0, 0]], [0]]]
        told = check_rule("012", rule)
        weights.append(9)
        rule[2][1][0][0] = 7
        rule[1] = None
        self.same(told, ("both", ("sum", 3, (1, 2), 0), ("square", ((0, 0, 0),), (0,))))

    def test_forty_parts(self):
        def many(parts):
            rule = ANY
            for _ in range(parts - 1):
                rule = ("not", rule)
            return rule

        self.assertEqual(check_rule("01", many(40)), many(40))
        self.assertIs(is_right("01", many(40), "0"), False)
        self.assertEqual(rule_walk("01", many(39)), Walk.everything("01"))
        wide = ANY
        for _ in range(19):
            wide = ("both", ANY, wide)
        self.assertEqual(check_rule("01", ("not", wide)), ("not", wide))
        for rule in (many(41), many(60), ("both", ANY, wide), ("not", ("back", wide))):
            for call in (check_rule, rule_walk):
                self.raises(TooMany, {"what": "rule"}, call, "01", rule)
            self.raises(TooMany, {"what": "rule"}, is_right, "01", rule, "5")
        # A bad part goes ahead, wherever it stands.
        self.raises(BadRule, {"rule": 5}, check_rule, "01", ("both", many(41), 5))

    def test_a_thousand_parts(self):
        rule = ANY
        for _ in range(8):
            rule = ("both", rule, rule)
        self.raises(TooMany, {"what": "rule"}, check_rule, "01", rule)


class TestMeaning(Case):
    def right(self, rule, right, wrong, signs="012"):
        walk = rule_walk(signs, rule)
        for paper in right:
            self.assertIs(is_right(signs, rule, paper), True, paper)
            self.assertIs(walk.right(paper), True, paper)
        for paper in wrong:
            self.assertIs(is_right(signs, rule, paper), False, paper)
            self.assertIs(walk.right(paper), False, paper)

    def test_each_word(self):
        self.right(ANY, ["", "0", "012" * 20], [])
        self.right(("sum", 3, (1,), 0), ["", "0", "12", "111", "222"], ["1", "2", "11", "122"])
        self.right(("sum", 5, (1, 3), 4), ["11", "221", "0110", "01100"], ["", "1", "12", "0111"])
        self.right(SQUARE, ["", "0", "12", "21", "111"], ["1", "2", "11"])
        self.right(("faces", ("012", "120"), ("sum", 3, (1,), 0)), ["", "02", "11", "20"], ["1", "00", "01", "12"])
        self.right(("back", ("sum", 3, (1, 2), 0)), ["", "0", "11", "201"], ["1", "2", "10", "01"])
        self.right(("cut", 1, 1, ("sum", 3, (1,), 0)), ["00", "12", "102", "2121"], ["", "0", "010", "1220"])
        self.right(("cut", 3, 3, ANY), ["000000", "0120120"], ["", "00000"])
        self.right(("both", ("sum", 2, (1,), 0), ("sum", 3, (1,), 0)), ["", "222", "0"], ["11", "12", "1"])
        self.right(("either", ("sum", 2, (1,), 0), ("sum", 3, (1,), 0)), ["", "222", "11", "12"], ["1", "122"])
        self.right(("not", ("sum", 2, (1,), 0)), ["1", "12"], ["", "11", "2"])

    def test_two_check_signs(self):
        inner = ("sum", 3, (1,), 0)
        outer = ("sum", 3, (1, 2), 0)
        rule = ("both", ("cut", 0, 1, inner), outer)
        for paper in papers_upto("012", 5):
            wanted = len(paper) > 0 and right_by("012", inner, paper[:-1]) and right_by("012", outer, paper)
            self.assertEqual(is_right("012", rule, paper), wanted)

    def test_against_a_slow_look(self):
        dice = random.Random(7)
        papers = {signs: papers_upto(signs, most) for signs, most in (("01", 8), ("02A", 5))}
        for _ in range(250):
            signs = dice.choice(["01", "02A"])
            rule = some_rule(dice, signs, 3)
            told = [right_by(signs, rule, paper) for paper in papers[signs]]
            self.assertEqual([is_right(signs, rule, paper) for paper in papers[signs]], told, rule)
            try:
                walk = rule_walk(signs, rule)
            except TooMany as error:
                self.assertEqual(error.what, "standing")
            else:
                self.assertEqual([walk.right(paper) for paper in papers[signs]], told, rule)

    def test_papers_of_sixty_signs(self):
        self.assertTrue(is_right("01", ("sum", 60, (1,), 0), "1" * 60))
        self.assertFalse(is_right("01", ("sum", 59, (1,), 0), "1" * 60))
        self.assertTrue(is_right("01", ("cut", 3, 3, ("sum", 54, (1,), 0)), "1" * 60))


class TestWalk(Case):
    def test_too_many_standings(self):
        self.assertEqual(len(rule_walk("01", ("sum", 50, (1, 3, 7), 0))), 150)
        rule = ("sum", 38, (1, 3, 7, 9), 0)
        self.raises(TooMany, {"what": "standing"}, rule_walk, "01", rule)
        self.assertTrue(is_right("01", rule, ""))
        self.assertEqual(check_rule("01", rule), rule)

    def test_a_part_with_too_many_standings(self):
        # The whole would have one standing, but its part has too many.
        part = ("sum", 59, (1, 3, 7), 0)
        for rule in (("both", part, ("not", ANY)), ("either", ANY, part), ("both", ("not", part), part),
                     ("not", ("not", part)), ("back", part), ("cut", 0, 0, part), ("faces", ("00",), part)):
            self.raises(TooMany, {"what": "standing"}, rule_walk, "01", rule)

    def test_a_large_walk_on_the_way_to_a_part(self):
        # Sixty standings times eight weights, of which those with equal weights are one.
        self.assertEqual(len(rule_walk("01", ("sum", 60, (7,) * 8, 0))), 60)
        self.assertEqual(len(rule_walk("01", ("sum", 60, (30,) * 8, 0))), 2)

    def test_back_of_many_standings(self):
        # Read back, the tenth sign from the end is the tenth one from the beginning.
        tenth = ("square", tuple((at + 1, at + 1) for at in range(9)) + ((10, 11), (10, 10), (11, 11)), (11,))
        self.assertEqual(len(rule_walk("01", tenth)), 12)
        self.raises(TooMany, {"what": "standing"}, rule_walk, "01", ("back", tenth))
        seventh = ("square", tuple((at + 1, at + 1) for at in range(6)) + ((7, 8), (7, 7), (8, 8)), (8,))
        self.assertEqual(len(rule_walk("01", ("back", seventh))), 128)
        self.assertEqual(rule_walk("01", ("back", ("back", seventh))), rule_walk("01", seventh))

    def test_back_of_a_hundred_and_fifty_standings(self):
        def rounds(many):
            return ("square", tuple(((at + 1) % many,) * 2 for at in range(many)), (0,))

        rule = ("both", rounds(50), rounds(3))
        self.assertEqual(len(rule_walk("01", rule)), 150)
        self.assertEqual(rule_walk("01", ("back", rule)), rule_walk("01", rule))
        # Nor does any other part make more of them.
        for outer in (("not", rule), ("faces", ("00", "10"), rule), ("cut", 0, 0, rule), ("both", rule, ANY)):
            self.assertEqual(len(rule_walk("01", outer)), 150)
        # The empty paper is wrong by these, and the one of 150 signs right.
        for outer in (("cut", 1, 0, ("not", rule)), ("cut", 0, 1, ("not", rule))):
            self.raises(TooMany, {"what": "standing"}, rule_walk, "01", outer)

    def test_squares_are_kept_and_walked(self):
        rule = ("square", ((1, 1), (0, 0), (2, 2)), (1, 2))
        self.same(check_rule("01", rule), rule)
        self.assertEqual(rule_walk("01", rule), Walk("01", ((1, 1), (0, 0)), (1,)))

    def test_cut_signs(self):
        signs = "0123456789AB"
        rule = ("cut", 3, 3, ("sum", 7, (1, 2), 3))
        walk = rule_walk(signs, rule)
        for paper in ("", "00000", "000000", "0123000", "0123456789AB", "AAA121AAA", "BBB3BBB"):
            self.assertEqual(walk.right(paper), right_by(signs, rule, paper))
