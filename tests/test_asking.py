"""Promises [31] and [32]: papers, menus, what is heard, answers, parts, values, their table, plans."""

import random
from itertools import combinations

from handcarried.asking import Asking, answers_of, judge_values
from handcarried.errors import BadAnswer, BadHeard, BadMenu, BadPaper, NoPlan, Twice
from helpers import ODD_THINGS, Case
from test_trust import changed

LAST = (("last", 0), 1)
LONG = (("long",), 5)
FIRST = (("sign", 0), 2)
FOUR = ("0120", "0121", "11", "")
MENU = ((("sign", 3), 2), LONG, LAST)


def slow_answers(question, paper, heard):
    """The answers that can be heard, by the words of the document."""
    if question[0] == "long":
        return (len(paper),)
    line = paper if question[0] == "sign" else paper[::-1]
    if question[1] >= len(line):
        return ("",)
    said = line[question[1]]
    return tuple(sorted({said} | {other for one, other in heard if one == said}))


def slow_parts(papers, question, heard, lot):
    told = [slow_answers(question, papers[k], heard) for k in lot]
    return {answer: tuple(k for k, answers in zip(lot, told) if answer in answers) for row in told for answer in row}


def slow_values(papers, menu, heard):
    """The value and the choice of each lot that comes up."""
    out = {}

    def value(lot):
        if lot in out:
            return out[lot][0]
        out[lot] = (0, None)
        if len(lot) > 1:
            best = (None, None)
            for number, (question, price) in enumerate(menu):
                parts = slow_parts(papers, question, heard, lot)
                if all(len(part) < len(lot) for part in parts.values()):
                    worths = [value(part) for part in parts.values()]
                    if None not in worths and (best[0] is None or price + max(worths) < best[0]):
                        best = (price + max(worths), number)
            out[lot] = best
        return out[lot][0]

    value(tuple(range(len(papers))))
    return out


def slow_table(papers, menu, heard):
    values = slow_values(papers, menu, heard)
    return tuple((lot, *values[lot]) for lot in sorted(values, key=lambda lot: (len(lot), lot)))


def slow_plan(papers, menu, heard, values, lot):
    if len(lot) == 1:
        return ("told", papers[lot[0]])
    question = menu[values[lot][1]][0]
    parts = slow_parts(papers, question, heard, lot)
    return ("ask", question, tuple((answer, slow_plan(papers, menu, heard, values, parts[answer]))
                                   for answer in sorted(parts)))


def slow_judge_values(papers, menu, heard, table):
    if table.__class__ not in (tuple, list):
        return -1

    def form(thing):
        if thing.__class__ not in (tuple, list) or len(thing) != 3 or thing[0].__class__ not in (tuple, list):
            return False
        lot, value, choice = thing
        if not all(k.__class__ is int for k in lot) or list(lot) != sorted(set(lot)):
            return False
        return ((value is None or (value.__class__ is int and value >= 0))
                and (choice is None or (choice.__class__ is int and 0 <= choice < len(menu))))

    good = [(tuple(thing[0]), thing[1], thing[2]) for thing in table if form(thing)]
    first = {}
    for lot, value, choice in good:
        first.setdefault(lot, (value, choice))
    if tuple(range(len(papers))) not in first:
        return -1
    for number, thing in enumerate(table):
        if not form(thing):
            return number
        lot, value, choice = tuple(thing[0]), thing[1], thing[2]
        if not lot or not all(0 <= k < len(papers) for k in lot):
            return number
        if any(other[0] == lot and other[1:] != (value, choice) for other in good):
            return number
        best = (0, None) if len(lot) == 1 else (None, None)
        for k, (question, price) in enumerate(menu if len(lot) > 1 else ()):
            parts = slow_parts(papers, question, heard, lot).values()
            if all(len(part) < len(lot) for part in parts):
                if any(part not in first for part in parts):
                    return number
                worths = [first[part][0] for part in parts]
                if None not in worths and (best[0] is None or price + max(worths) < best[0]):
                    best = (price + max(worths), k)
        if (value, choice) != best:
            return number
    return None


def some_question(dice):
    return dice.choice([("sign", dice.randrange(4)), ("last", dice.randrange(4)), ("long",)])


def some_asking(dice, many=5):
    papers = []
    while len(papers) < dice.randrange(1, many + 1):
        paper = "".join(dice.choice("01A") for _ in range(dice.randrange(5)))
        if paper not in papers:
            papers.append(paper)
    menu = tuple((some_question(dice), dice.randrange(1, 6)) for _ in range(dice.randrange(1, 6)))
    heard = tuple(tuple(dice.sample("01AZ", 2)) for _ in range(dice.randrange(3)))
    return tuple(papers), menu, heard


class TestAnswers(Case):
    def test_signs_from_both_ends(self):
        self.same(answers_of(("sign", 0), "012", ()), ("0",))
        self.same(answers_of(("sign", 2), "012", ()), ("2",))
        self.same(answers_of(("last", 0), "012", ()), ("2",))
        self.same(answers_of(("last", 2), "012", ()), ("0",))
        self.same(answers_of(["sign", 1], "0Z2", []), ("Z",))

    def test_a_place_that_is_not_there(self):
        for question in (("sign", 3), ("last", 3), ("sign", 59), ("last", 59)):
            self.same(answers_of(question, "012", (("0", "1"),)), ("",))
            self.same(answers_of(question, "", (("0", "1"),)), ("",))

    def test_what_can_be_heard_once(self):
        heard = (("2", "Z"), ("2", "0"), ("0", "1"), ("Z", "9"), ("2", "Z"), ["2", "A"])
        self.same(answers_of(("last", 0), "012", heard), ("0", "2", "A", "Z"))
        self.same(answers_of(("sign", 1), "012", heard), ("1",))
        self.same(answers_of(("sign", 0), "012", heard), ("0", "1"))

    def test_lengths(self):
        for paper in ("", "0", "0" * 60):
            self.same(answers_of(("long",), paper, (("0", "1"),)), (len(paper),))

    def test_against_a_slow_look(self):
        dice = random.Random(313)
        for _ in range(300):
            papers, menu, heard = some_asking(dice)
            for paper in papers:
                self.same(answers_of(menu[0][0], paper, heard), slow_answers(menu[0][0], paper, heard))


class TestErrors(Case):
    def both(self, kind, told, papers, menu, heard):
        self.raises(kind, told, Asking, papers, menu, heard=heard)
        self.raises(kind, told, judge_values, papers, menu, heard, None)

    def test_papers(self):
        for papers in (*[thing for thing in ODD_THINGS if thing != (1, 2)], ("0",) * 9, tuple("012345678")):
            self.both(BadPaper, {"paper": papers}, papers, None, None)
        self.both(BadPaper, {"paper": 1}, (1, 2), None, None)
        for paper in (*[thing for thing in ODD_THINGS if not isinstance(thing, str)], "0" * 61, "a", "0 ", "-", "x", "0.1"):
            for k in range(4):
                self.both(BadPaper, {"paper": paper}, (*("0", "0", "1")[:k], paper, None), None, None)
        self.assertEqual(Asking(("", "0" * 60, "Z9"), (LONG,)).value, 5)
        self.assertEqual(Asking([""], [LONG]).value, 0)

    def test_twice(self):
        self.both(Twice, {"name": "1"}, ("0", "1", "1", "0"), None, None)
        self.both(Twice, {"name": "0"}, ("0", "1", "0", "1"), None, None)
        # All errors of papers go ahead.
        self.both(BadPaper, {"paper": "a"}, ("0", "0", "a"), None, None)

    def test_menus(self):
        for menu in (*[thing for thing in ODD_THINGS if thing != (1, 2)], (LAST,) * 9, "01"):
            self.both(BadMenu, {"item": -1}, ("0",), menu, None)
        bad = (*ODD_THINGS, (("sign", 0),), (("sign", 0), 1, 1), (("sign", 0), 0), (("sign", 0), 100), (("sign", 0), True),
               (("sign", 0), None), (("sign", 0), "1"), (("sign", 0), -1), (("sign", 60), 1), (("sign", -1), 1),
               (("sign", True), 1), (("sign", "0"), 1), (("sign", None), 1), (("sign",), 1), (("last",), 1),
               (("last", 60), 1), (("last", False), 1), (("long", 0), 1), (("long", 0, 0), 1), (("Long",), 1), ("long", 1),
               ((), 1), (None, 1), ((None,), 1), ((True, 0), 1), (("first", 0), 1), (("sign", 0, 0), 1), ("sign", 0, 1),
               ((["sign"], 0), 1), (("sign", 0.0), 1))
        for pair in bad:
            for k in range(3):
                self.both(BadMenu, {"item": k}, ("0",), (*[LAST] * k, pair, None), None)
        for price in (1, 99):
            for question in (("sign", 0), ("sign", 59), ("last", 0), ("last", 59), ("long",)):
                self.assertEqual(Asking(("", "0"), ((("long",), price), (question, 99))).value, price)
        self.assertEqual(len(Asking(("0", "1"), (LAST,) * 8).table), 3)

    def test_heard(self):
        for heard in (*[thing for thing in ODD_THINGS if thing not in ((), [], (1, 2))], (("0", "1"),) * 31):
            self.both(BadHeard, {"item": -1}, ("0",), (LAST,), heard)
        self.both(BadHeard, {"item": 0}, ("0",), (LAST,), (1, 2))
        for pair in (*ODD_THINGS, "01", ("0",), ("0", "1", "2"), ("0", "0"), ("0", "x"), ("", "0"), ("0", ""), ("00", "1"),
                     ("0", "11"), ("0", 1), (0, "1"), ("0", None), (True, "1"), ("0", ("1",)), ("0", " ")):
            for k in range(3):
                self.both(BadHeard, {"item": k}, ("0",), (LAST,), (*[("0", "1")] * k, pair, None))
        self.assertEqual(Asking(("0",), (LAST,), heard=(("0", "1"),) * 30).value, 0)
        self.assertEqual(Asking(("0",), (LAST,), heard=[["0", "Z"]]).value, 0)

    def test_the_order_of_the_errors(self):
        self.both(BadPaper, {"paper": None}, (None,), (), (5,))
        self.both(Twice, {"name": "0"}, ("0", "0"), (), (5,))
        self.both(BadMenu, {"item": -1}, ("0",), (), (5,))
        self.both(BadHeard, {"item": 0}, ("0",), (LAST,), (5,))
        self.raises(TypeError, {}, Asking, ("0",), (LAST,), ())


class TestValues(Case):
    def test_one_paper(self):
        told = Asking(("01",), (LONG,))
        self.same((bool(told), told.value, told.table, told.plan()), (True, 0, (((0,), 0, None),), ("told", "01")))

    def test_the_value_and_the_table(self):
        told = Asking(FOUR, MENU, heard=(("2", "1"),))
        self.same((bool(told), told.value), (True, 3))
        self.same(told.table, (
            ((0,), 0, None), ((1,), 0, None), ((2,), 0, None), ((3,), 0, None), ((0, 1), 1, 2), ((1, 2), 2, 0),
            ((2, 3), 1, 2), ((0, 1, 2, 3), 3, 0)))
        self.same(told.plan(), ("ask", ("sign", 3), (
            ("", ("ask", ("last", 0), (("", ("told", "")), ("1", ("told", "11"))))), ("0", ("told", "0120")),
            ("1", ("told", "0121")))))

    def test_papers_that_no_question_parts(self):
        told = Asking(("01", "11"), (LAST, LONG))
        self.same((bool(told), told.value, told.table), (False, None, (((0, 1), None, None),)))
        for call in (told.plan, lambda: told.led(()), lambda: told.led((True,))):
            self.raises(NoPlan, {"papers": 2}, call)
        # What is heard wrongly can take the place of the other sign.
        self.same(Asking(("0", "1"), (LAST,), heard=(("0", "1"),)).value, None)
        self.same(Asking(("0", "1"), (LAST,), heard=(("0", "2"), ("1", "3"))).value, 1)
        self.same(Asking(("0", "1"), (LAST,), heard=(("0", "2"), ("1", "2"))).value, None)

    def test_a_part_that_has_no_value(self):
        papers = ("0", "1", "01")
        told = Asking(papers, ((("long",), 1),))
        self.same(told.table, (((2,), 0, None), ((0, 1), None, None), ((0, 1, 2), None, None)))
        self.assertFalse(told)
        # Another question is dearer, but all of its parts have a value.
        told = Asking(papers, ((("long",), 1), (("sign", 0), 9), (("sign", 1), 8)), heard=(("0", "1"),))
        self.same(told.value, None)
        told = Asking(("0", "1", "01", "11"), ((("long",), 1), (("sign", 0), 9)))
        self.same(told.value, 10)
        self.same(told.table[-1], ((0, 1, 2, 3), 10, 0))

    def test_the_first_question_of_those_that_give_the_least_value(self):
        papers = ("00", "01", "10", "11")
        menu = ((("sign", 0), 3), (("last", 0), 2), (("sign", 1), 2), (("last", 1), 3))
        told = Asking(papers, menu)
        self.same((told.value, told.table[-1]), (5, ((0, 1, 2, 3), 5, 0)))
        self.same(Asking(papers, menu[1:]).table[-1], ((0, 1, 2, 3), 5, 0))
        self.same(Asking(("0", "1"), (LONG, (("last", 5), 1), FIRST, LAST, LAST)).table[-1], ((0, 1), 1, 3))

    def test_lots_that_come_up(self):
        # Parts of a question that is not chosen come up, too.
        told = Asking(("00", "01", "1"), ((("long",), 9), (("sign", 0), 1), (("last", 0), 1)))
        self.assertIn(((0, 1), 1, 2), told.table)
        self.assertIn(((1, 2), 1, 1), told.table)
        self.same(told.table, slow_table(("00", "01", "1"), ((("long",), 9), (("sign", 0), 1), (("last", 0), 1)), ()))

    def test_eight_papers(self):
        papers = tuple("01234567")
        told = Asking(papers, (LAST,))
        self.same((told.value, len(told.table)), (1, 9))
        heard = tuple((str(k), str(k + 1)) for k in range(7))
        told = Asking(papers, (LAST, (("last", 0), 2)), heard=heard)
        self.same(told.table, slow_table(papers, (LAST, (("last", 0), 2)), heard))
        papers = tuple(f"{k:03b}" for k in range(8))
        told = Asking(papers, tuple((("sign", k), 7) for k in range(3)))
        self.same((told.value, len(told.table)), (21, 27))

    def test_against_slow_looks(self):
        dice = random.Random(317)
        seen = []
        for _ in range(300):
            papers, menu, heard = some_asking(dice)
            told = Asking(papers, menu, heard=heard)
            self.same(told.table, slow_table(papers, menu, heard))
            self.same(told.value, told.table[-1][1])
            self.assertIs(bool(told), told.value is not None)
            self.assertIsNone(judge_values(papers, menu, heard, told.table))
            if told:
                values = slow_values(papers, menu, heard)
                self.same(told.plan(), slow_plan(papers, menu, heard, values, tuple(range(len(papers)))))
                self.assertLessEqual(max(self.costs(dict(menu[::-1]), menu, told.plan())), told.value)
            seen.append(bool(told))
        self.assertEqual(set(seen), {True, False})

    def costs(self, prices, menu, plan):
        """What each way through a plan costs at least, as a question may be in the menu for several prices."""
        if plan[0] == "told":
            return [0]
        price = min(price for question, price in menu if question == plan[1])
        return [price + cost for _, inner in plan[2] for cost in self.costs(prices, menu, inner)]


class TestLed(Case):
    def setUp(self):
        self.told = Asking(FOUR, MENU, heard=(("2", "1"),))

    def test_the_plan_that_is_reached(self):
        self.same(self.told.led(()), self.told.plan())
        self.same(self.told.led([]), self.told.plan())
        self.same(self.told.led(("",)), self.told.plan()[2][0][1])
        self.same(self.told.led(("", "1")), ("told", "11"))
        self.same(self.told.led(["0"]), ("told", "0120"))

    def test_answers_that_cannot_be_heard(self):
        for answer in (*[thing for thing in ODD_THINGS if thing != ""], "2", "01", 0, 1, ("0",)):
            self.raises(BadAnswer, {"answer": 0}, self.told.led, (answer,))
            self.raises(BadAnswer, {"answer": 0}, self.told.led, (answer, "0"))
            self.raises(BadAnswer, {"answer": 1}, self.told.led, ("", answer))
        self.raises(BadAnswer, {"answer": 1}, self.told.led, ("", "0"))

    def test_answers_when_a_paper_has_been_told(self):
        for answer in ("", "0", None, True, 0):
            self.raises(BadAnswer, {"answer": 1}, self.told.led, ("0", answer))
            self.raises(BadAnswer, {"answer": 2}, self.told.led, ("", "1", answer, answer))
            self.raises(BadAnswer, {"answer": 0}, Asking(("0",), (LAST,)).led, (answer,))

    def test_lengths(self):
        told = Asking(("", "0", "00", "0" * 60), (LONG,))
        self.same(told.plan(), ("ask", ("long",), ((0, ("told", "")), (1, ("told", "0")), (2, ("told", "00")),
                                                   (60, ("told", "0" * 60)))))
        self.same(told.led((60,)), ("told", "0" * 60))
        for answer in (True, False, "1", "", 3, -1, None, 1.0, (1,)):
            self.raises(BadAnswer, {"answer": 0}, told.led, (answer,))

    def test_questions_that_were_lists(self):
        told = Asking(["0", "1"], [[["sign", 0], 1]], heard=[["0", "2"]])
        self.same(told.plan(), ("ask", ("sign", 0), (("0", ("told", "0")), ("1", ("told", "1")), ("2", ("told", "0")))))


class TestJudged(Case):
    def setUp(self):
        self.table = Asking(FOUR, MENU, heard=(("2", "1"),)).table

    def judged(self, table):
        told = judge_values(FOUR, MENU, (("2", "1"),), table)
        self.same(told, slow_judge_values(FOUR, MENU, (("2", "1"),), table))
        return told

    def test_right_tables(self):
        def listed(thing):
            return [listed(part) for part in thing] if thing.__class__ is tuple else thing

        for told in (self.table, self.table[::-1], self.table * 3, listed(self.table), [*self.table, listed(self.table[4])]):
            self.assertIsNone(self.judged(told))
        # A lot that never comes up may be there, if it is right itself.
        self.assertIsNone(self.judged((*self.table, ((0, 3), 1, 2))))
        self.assertIsNone(self.judged((*self.table, ((0, 2), 1, 2))))

    def test_no_table(self):
        for thing in (*[thing for thing in ODD_THINGS if thing not in ((1, 2),)], (), self.table[:-1],
                      (*self.table[:-1], ((0, 1, 2, 3), 3, 3)), (*self.table[:-1], ((0, 1, 2, 3), -1, 0)),
                      (*self.table[:-1], ((0, 1, 2, True), 3, 0)), (*self.table[:-1], ((3, 2, 1, 0), 3, 0))):
            self.assertEqual(self.judged(thing), -1)

    def test_entries_without_their_form(self):
        for entry in (*ODD_THINGS, ((0,), 0), ((0,), 0, None, None), (0, 0, None), ((0,), True, None), ((0,), False, None),
                      ((0,), "0", None), ((0,), -1, None), ((0,), 0, True), ((0,), 0, -1), ((0,), 0, 3), ((0,), 0, "0"),
                      ((1, 0), 1, 2), ((0, 0), 0, None), ((False,), 0, None), (("0",), 0, None), (None, 0, None),
                      ("0", 0, None), ((0.0,), 0, None), (((0,),), 0, None)):
            self.assertEqual(self.judged((*self.table, entry)), len(self.table), entry)
            self.assertEqual(self.judged([entry, *self.table]), 0, entry)

    def test_lots_of_other_numbers(self):
        for lot in ((), (4,), (-1,), (0, 4), (10 ** 39,), tuple(range(100))):
            for told in ((0, None), (None, None), (1, 2)):
                self.assertEqual(self.judged((*self.table, (lot, *told))), len(self.table))

    def test_another_entry_of_the_same_lot(self):
        for k, (lot, value, choice) in enumerate(self.table):
            for other in ((lot, value, 1), (lot, value + 1, choice), (lot, None, None)):
                if other != self.table[k]:
                    self.assertEqual(self.judged((*self.table, other)), k)
                    # The first one counts for the others, and is itself wrong.
                    self.assertEqual(self.judged((other, *self.table)), 0)

    def test_a_part_without_an_entry(self):
        for k in range(len(self.table) - 1):
            self.assertIsNotNone(self.judged(self.table[:k] + self.table[k + 1:]))
        self.assertEqual(self.judged(self.table[1:]), 3)

    def test_wrong_values_and_choices(self):
        for k, (lot, value, choice) in enumerate(self.table):
            for other in ((lot, value + 1, choice), (lot, value, None if choice is not None else 0), (lot, None, choice),
                          (lot, None, None), (lot, 0, choice), (lot, value, 1)):
                if other != self.table[k]:
                    self.assertIsNotNone(self.judged((*self.table[:k], other, *self.table[k + 1:])))

    def test_against_a_slow_look(self):
        dice = random.Random(331)
        told = []
        for _ in range(400):
            papers, menu, heard = some_asking(dice, 4)
            table = list(Asking(papers, menu, heard=heard).table)
            for _ in range(dice.randrange(3)):
                k = dice.randrange(len(table)) if table else 0
                what = dice.randrange(5)
                if what == 0 and table:
                    del table[k]
                elif what == 1 and table:
                    table.insert(dice.randrange(len(table)), changed(dice, table[k]))
                elif what == 2:
                    dice.shuffle(table)
                elif what == 3:
                    lots = [lot for many in range(len(papers) + 1) for lot in combinations(range(len(papers)), many)]
                    table.append((dice.choice(lots), dice.choice([None, 0, 1, 2, 3]), dice.choice([None, 0])))
                elif table:
                    table[k] = changed(dice, table[k])
            told.append(judge_values(papers, menu, heard, tuple(table)))
            self.same(told[-1], slow_judge_values(papers, menu, heard, tuple(table)))
        self.assertTrue(None in told and -1 in told and 0 in told and 2 in told)
