"""Promise [39]: the words of a rule."""

import random

from handcarried.errors import BadLine
from handcarried.rules import check_rule
from handcarried.ruletext import read_rule, write_rule
from helpers import ODD_THINGS, Case
from test_rules import listed, some_rule

EXAMPLES = (
    (("any",), "any"),
    (("sum", 4, (1, 3), 0), "sum 4 1,3 0"),
    (("sum", 60, (59, 0, 10, 1, 2, 3, 4, 5), 59), "sum 60 59,0,10,1,2,3,4,5 59"),
    (("sum", 2, (1,), 1), "sum 2 1 1"),
    (("square", ((1, 0, 0, 0), (1, 1, 1, 1)), (1,)), "square 1,0,0,0/1,1,1,1 1"),
    (("square", ((0, 0),), (0,)), "square 0,0 0"),
    (("square", ((0, 1), (1, 0)), (0, 1)), "square 0,1/1,0 0,1"),
    (("faces", ("0123", "3333"), ("any",)), "faces 0123,3333 any"),
    (("faces", ("AZ",), ("back", ("any",))), "faces AZ back any"),
    (("cut", 0, 3, ("not", ("any",))), "cut 0 3 not any"),
    (("both", ("sum", 4, (1, 3), 0), ("not", ("square", ((1, 0, 0, 0), (1, 1, 1, 1)), (1,)))),
     "both sum 4 1,3 0 not square 1,0,0,0/1,1,1,1 1"),
    (("either", ("both", ("any",), ("back", ("any",))), ("any",)), "either both any back any any"),
)


class TestWords(Case):
    def test_written_and_read(self):
        for rule, text in EXAMPLES:
            self.same(write_rule(rule), text)
            self.same(write_rule(listed(rule)), text)
            self.same(read_rule(text), rule)

    def test_any_rule(self):
        dice = random.Random(29)
        for _ in range(200):
            rule = some_rule(dice, "012", 4)
            self.same(read_rule(write_rule(rule)), rule)
            self.same(check_rule("012", read_rule(write_rule(rule))), rule)

    def test_the_largest_words(self):
        row = ",".join(["59"] * 12)
        text = f"square {'/'.join([row] * 60)} {','.join(['0'] * 60)}"
        self.same(read_rule(text), ("square", ((59,) * 12,) * 60, (0,) * 60))
        self.same(write_rule(read_rule(text)), text)
        self.same(read_rule("faces 0123456789AB,01,ZZZ,00 any"), ("faces", ("0123456789AB", "01", "ZZZ", "00"),
                                                                  ("any",)))

    def test_what_the_rule_itself_judges(self):
        # Weights and goals beyond the modulus, rows of unlike lengths, standings that are not there.
        self.same(read_rule("sum 2 59 59"), ("sum", 2, (59,), 59))
        self.same(read_rule("square 7,7/1,2,3 5,4,4"), ("square", ((7, 7), (1, 2, 3)), (5, 4, 4)))
        self.same(read_rule("faces 01,012 any"), ("faces", ("01", "012"), ("any",)))

    def test_forty_rules(self):
        text = "not " * 39 + "any"
        rule = read_rule(text)
        self.same(write_rule(rule), text)
        self.raises(BadLine, {"line": 0, "word": 40}, read_rule, "not " * 40 + "any")
        self.raises(BadLine, {"line": 0, "word": 40}, read_rule, "not " * 45 + "any")
        self.raises(BadLine, {"line": 0, "word": 40}, read_rule, ("not " * 40).strip())
        self.raises(BadLine, {"line": 0, "word": 39}, read_rule, ("not " * 39).strip())
        # Twenty rules that begin, and their twenty-one inner rules, of which the last is one too many.
        wide = "both any " * 19 + "any"
        self.same(write_rule(read_rule(wide)), wide)
        self.raises(BadLine, {"line": 0, "word": 40}, read_rule, "both any " * 20 + "any")
        self.raises(BadLine, {"line": 0, "word": 100}, read_rule, "both sum 2 0,1 0 " * 19 + "not sum 2 0 0 any")
        self.raises(BadLine, {"line": 0, "word": 100}, read_rule, "both sum 2 0,1 0 " * 19 + "both sum 2 0 0 any")


class TestBadWords(Case):
    def bad(self, text, word):
        self.raises(BadLine, {"line": 0, "word": word}, read_rule, text)

    def test_things_that_are_no_strings(self):
        for thing in ODD_THINGS:
            if not isinstance(thing, str):
                self.bad(thing, 0)
        self.bad(("any",), 0)
        self.bad(["any"], 0)

    def test_words_that_begin_no_rule(self):
        for word in ("", "Any", "all", "rule", "5", "any,", "sum,", "-", "signs", "any/any"):
            self.bad(word, 0)
            self.bad(f"not {word}", 1)
            self.bad(f"both any {word}", 2)
            self.bad(f"cut 1 2 {word}", 3)
            self.bad(f"faces 01 {word}", 2)

    def test_empty_words(self):
        self.bad("", 0)
        self.bad(" ", 0)
        self.bad(" any", 0)
        self.bad("any ", 1)
        self.bad("not  any", 1)
        self.bad("not any ", 2)
        self.bad("sum  4 1,3 0", 1)
        self.bad("sum 4  1,3 0", 2)
        self.bad("sum 4 1,3  0", 3)
        self.bad("sum 4 1,3 0 ", 4)

    def test_lines_that_end_too_early(self):
        for text in ("sum", "sum 4", "sum 4 1,3", "square", "square 0,0", "faces", "faces 01", "back", "cut", "cut 0",
                     "cut 0 1", "both", "both any", "both any not", "either sum 4 1,3 0", "not", "not not"):
            self.bad(text, len(text.split(" ")))

    def test_a_word_too_much(self):
        for rule, text in EXAMPLES:
            for more in ("any", "0", "x", "sum 4 1,3 0"):
                self.bad(f"{text} {more}", len(text.split(" ")))

    def test_integers(self):
        for word in ("", "00", "01", "+1", "-1", "1.0", "1_0", "x", "0x1", "1e1", "99999999999999999999999", "-", "A"):
            self.bad(f"sum {word} 0 0", 1)
            self.bad(f"sum 5 {word} 0", 2)
            self.bad(f"sum 5 0,{word} 0", 2)
            self.bad(f"sum 5 {word},0 0", 2)
            self.bad(f"sum 5 0 {word}", 3)
            self.bad(f"cut {word} 0 any", 1)
            self.bad(f"cut 0 {word} any", 2)
            self.bad(f"square 0,{word} 0", 1)
            self.bad(f"square 0,0/{word},0 0", 1)
            self.bad(f"square 0,0 {word}", 2)
            self.bad(f"square 0,0 0,{word}", 2)

    def test_bounds(self):
        for text, word in (("sum 1 0 0", 1), ("sum 0 0 0", 1), ("sum 61 0 0", 1), ("sum 5 60 0", 2),
                           ("sum 5 0,0,0,0,0,0,0,0,0 0", 2), ("sum 5 0 60", 3), ("square 0,60 0", 1),
                           ("square 0 0", 1), ("square 0,0/0 0", 1), (f"square {'0,' * 12}0 0", 1),
                           (f"square {'0,0/' * 60}0,0 0", 1), ("square 0,0 60", 2), (f"square 0,0 {'0,' * 60}0", 2),
                           ("square 0,0/ 0", 1), ("square /0,0 0", 1), ("square 0,0//0,0 0", 1), ("square 0,0, 0", 1),
                           ("cut 4 0 any", 1), ("cut 0 4 any", 2), ("faces 0 any", 1), ("faces 0123456789ABC any", 1),
                           ("faces 01,01,01,01,01 any", 1), ("faces 01, any", 1), ("faces ,01 any", 1),
                           ("faces 0x any", 1), ("faces 01,0 any", 1), ("faces 0a any", 1), ("faces - any", 1)):
            self.bad(text, word)

    def test_the_first_bad_word(self):
        self.bad("sum 61 60 60 x", 1)
        self.bad("both sum 5 60 9 sum 1", 3)
        self.bad("both sum 5 9 9 sum 1", 6)
        self.bad("nor any", 0)
