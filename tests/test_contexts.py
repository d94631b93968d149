"""Promise [12]: contexts, what a walk is blind to, what it always sees, and classes of signs."""

import random

from brute import key_of, papers_upto
from handcarried.contexts import Blind, Seeing, sign_classes
from handcarried.errors import BadPaper
from handcarried.rules import rule_walk
from handcarried.walks import Walk
from helpers import ODD_THINGS, Case, counter
from test_walks import some_walk

EVERYTHING = Walk.everything("01")
NOTHING = ~EVERYTHING


def contexts_upto(signs, most):
    """All contexts of at most so many signs together, in the order told."""
    papers = papers_upto(signs, most)
    found = [(ahead, after) for ahead in papers for after in papers if len(ahead) + len(after) <= most]
    return sorted(found, key=lambda pair: (len(pair[0]) + len(pair[1]), key_of(pair[0]), key_of(pair[1])))


def right_in(walk, context, paper):
    at = 0
    for sign in context[0] + paper + context[1]:
        at = walk.rows[at][walk.signs.index(sign)]
    return at in walk.goals


class TestContexts(Case):
    def test_least_telling(self):
        # By this sum only the second, the fourth sign and so on count.
        walk = rule_walk("012", ("sum", 3, (0, 1), 0))
        told = Blind(walk, "1", "2")
        self.assertIs(bool(told), False)
        # Behind the one sign neither is right: the sum is 1, or 2. A second sign that counts makes 3 of the 2.
        self.same(told.context, ("0", "01"))
        self.same(Blind(walk, "0", "00").context, ("", "1"))
        self.same(Blind(walk, "", "10").context, ("0", ""))
        self.same(Blind(walk, "", "00").context, None)
        self.assertIs(bool(Blind(walk, "", "00")), True)

    def test_least_hiding(self):
        walk = rule_walk("012", ("sum", 3, (1,), 0))
        self.same(Seeing(walk, "1", "2").context, None)
        self.assertIs(bool(Seeing(walk, "1", "2")), True)
        told = Seeing(walk, "12", "21")
        self.assertIs(bool(told), False)
        self.same(told.context, ("", ""))
        self.same(Seeing(walk, "11", "2").context, ("", "1"))

    def test_signs_together_then_ahead_then_after(self):
        papers = ("000", "001", "010", "100", "111", "00")
        walk = Walk("01", *trie(papers))
        told = [context for context in contexts_upto("01", 3) if right_in(walk, context, "0")
                != right_in(walk, context, "1")]
        self.same(Blind(walk, "0", "1").context, told[0])
        self.same(told[0], ("", "0"))
        hiding = [context for context in contexts_upto("01", 3) if right_in(walk, context, "0")
                  and right_in(walk, context, "1")]
        self.same(hiding, [("", "00"), ("0", "0"), ("00", "")])
        self.same(Seeing(walk, "0", "1").context, ("", "00"))

    def test_less_ahead_goes_first_even_if_after_is_greater(self):
        walk = Walk("01", *trie(("0011", "1011")))
        self.same(Seeing(walk, "0", "1").context, ("", "011"))
        walk = Walk("01", *trie(("0010", "0110", "1000", "1100")))
        self.same(Seeing(walk, "0", "1").context, ("0", "10"))
        walk = Walk("01", *trie(("1000", "1100", "1010", "1110", "0011")))
        self.same(Seeing(walk, "0", "1").context, ("1", "00"))

    def test_equal_papers(self):
        for walk in (EVERYTHING, NOTHING, counter("01", 3, (2,))):
            for paper in ("", "0", "0110", "0" * 60):
                self.assertIs(bool(Blind(walk, paper, paper)), True)
                self.assertIsNone(Blind(walk, paper, paper).context)
        self.same(Seeing(counter("01", 3, (2,)), "0", "0").context, ("", "0"))
        self.same(Seeing(counter("01", 3, (2,)), "000", "000").context, ("", "00"))
        self.same(Seeing(EVERYTHING, "0", "0").context, ("", ""))
        self.assertIs(bool(Seeing(NOTHING, "0", "0")), True)

    def test_empty_papers_and_unlike_lengths(self):
        walk = counter("01", 4)
        self.same(Blind(walk, "", "0000").context, None)
        self.same(Blind(walk, "", "000").context, ("", ""))
        self.same(Blind(walk, "0", "000").context, ("", "0"))
        self.same(Seeing(walk, "", "00000000").context, ("", ""))
        self.assertIs(bool(Seeing(walk, "", "00")), True)

    def test_all_papers_right_and_none(self):
        for first, second in (("", "0"), ("01", "1"), ("1", "0")):
            self.assertIs(bool(Blind(EVERYTHING, first, second)), True)
            self.assertIs(bool(Blind(NOTHING, first, second)), True)
            self.same(Seeing(EVERYTHING, first, second).context, ("", ""))
            self.assertIs(bool(Seeing(NOTHING, first, second)), True)
            self.same((Blind(EVERYTHING, first, second).context, Seeing(NOTHING, first, second).context), (None, None))

    def test_long_contexts(self):
        walk = counter("01", 150, (149,))
        self.same(Blind(walk, "", "1").context, ("", "0" * 148))
        self.same(Seeing(walk, "1" * 50, "0" * 50).context, ("", "0" * 99))
        # Only behind 74 signs the two signs differ, and then it takes 75 more until they are told.
        rows = [(at + 1, at + 1) for at in range(74)] + [(75, 76)]
        rows += [(at + 2, min(at + 2, 148)) for at in range(75, 147)] + [(149, 149), (149, 149), (149, 149)]
        walk = Walk("01", rows, (148,))
        told = Blind(walk, "0", "1")
        self.assertEqual(told.context[0], "0" * 74)
        self.assertEqual(contexts_right(walk, told.context, ("0", "1")), 1)

    def test_bad_papers(self):
        walk = counter("01", 3)
        long = "0" * 61
        for kind in (Blind, Seeing):
            kind(walk, "0" * 60, "1" * 60)
            self.raises(BadPaper, {"paper": long}, kind, walk, long, "2")
            self.raises(BadPaper, {"paper": long}, kind, walk, "0", long)
            self.raises(BadPaper, {"paper": "3"}, kind, walk, "3", long)
            for thing in ODD_THINGS:
                if thing not in ("", "01"):
                    self.raises(BadPaper, {}, kind, walk, thing, "0")
                    self.raises(BadPaper, {}, kind, walk, "0", thing)

    def test_against_a_slow_look(self):
        dice = random.Random(41)
        contexts = contexts_upto("01", 6)
        for _ in range(400):
            walk = Walk("01", *some_walk(dice, "01", dice.randrange(1, 5)))
            first, second = ["".join(dice.choice("01") for _ in range(dice.randrange(4))) for _ in range(2)]
            flags = [(context, right_in(walk, context, first), right_in(walk, context, second))
                     for context in contexts]
            telling = [context for context, one, other in flags if one != other]
            told = Blind(walk, first, second)
            # From at most four standings at most three signs each are needed ahead and after.
            self.same(told.context, telling[0] if telling else None)
            self.assertIs(bool(told), not telling)
            hiding = [context for context, one, other in flags if one and other]
            told = Seeing(walk, first, second)
            if hiding or told.context is None:
                self.same(told.context, hiding[0] if hiding else None)
            else:
                self.assertGreater(len(told.context[0] + told.context[1]), 6)
                self.assertEqual(contexts_right(walk, told.context, (first, second)), 2)
            self.assertIs(bool(told), told.context is None)


def contexts_right(walk, context, papers):
    return sum(right_in(walk, context, paper) for paper in papers)


def trie(papers):
    """Rows and goals of the walk over 01 by which just these papers are right."""
    found = sorted({paper[:many] for paper in papers for many in range(len(paper) + 1)}, key=key_of)
    number = {paper: at for at, paper in enumerate(found)}
    rows = [tuple(number.get(paper + sign, len(found)) for sign in "01") for paper in found]
    return [*rows, (len(found),) * 2], tuple(sorted(number[paper] for paper in papers))


class TestClasses(Case):
    def test_all_alone(self):
        self.same(sign_classes(rule_walk("0123", ("sum", 5, (1,), 0))), ((0,), (1,), (2,), (3,)))

    def test_all_in_one(self):
        self.same(sign_classes(counter("0123", 7)), ((0, 1, 2, 3),))
        self.same(sign_classes(EVERYTHING), ((0, 1),))
        self.same(sign_classes(NOTHING), ((0, 1),))

    def test_some(self):
        walk = rule_walk("0123456", ("sum", 3, (1, 2), 1))
        self.same(sign_classes(walk), ((0, 3, 6), (1, 4), (2, 5)))
        walk = rule_walk("ABCD", ("square", ((1, 0, 1, 0), (0, 1, 0, 0)), (1,)))
        self.same(sign_classes(walk), ((0, 2), (1,), (3,)))
        # Signs that differ just where nothing can be right any more can be exchanged.
        walk = Walk("012", ((1, 1, 2), (3, 2, 2), (2, 3, 2), (3, 3, 3)), (0,))
        self.same(sign_classes(walk), ((0, 1, 2),))

    def test_against_blind(self):
        dice = random.Random(43)
        for _ in range(60):
            walk = Walk("0123", *some_walk(dice, "0123", dice.randrange(1, 4)))
            lots = sign_classes(walk)
            self.assertEqual(sorted(value for lot in lots for value in lot), [0, 1, 2, 3])
            self.assertEqual([lot[0] for lot in lots], sorted(lot[0] for lot in lots))
            for one in range(4):
                for other in range(4):
                    together = any(one in lot and other in lot for lot in lots)
                    self.assertEqual(together, bool(Blind(walk, "0123"[one], "0123"[other])))
