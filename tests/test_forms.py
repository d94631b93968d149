"""Promise [6]: forms, readings and the walk of a form."""

import random

from brute import papers_upto, readings_of
from handcarried.errors import BadForm, BadPaper, BadSigns, TooMany, Twice
from handcarried.forms import check_form, form_walk, readings
from handcarried.walks import Walk
from helpers import ODD_THINGS, Case

RUN = ("run", "a", "01", 0, None)


def some_form(dice, signs):
    form = []
    for name in "abcdef"[:dice.randrange(1, 4)]:
        if dice.random() < 0.5:
            allowed = "".join(sorted(dice.sample(signs, dice.randrange(1, len(signs) + 1))))
            least = dice.randrange(3)
            form.append(("run", name, allowed, least, dice.choice([None, max(1, least), least + 1, least + 2])))
        else:
            words = {"".join(dice.choice(signs) for _ in range(dice.randrange(1, 4))) for _ in range(3)}
            form.append(("words", name, tuple(dice.sample(sorted(words), len(words)))))
    return tuple(form)


class TestForm(Case):
    def bad(self, form, field, signs="012"):
        for call in (check_form, form_walk):
            self.raises(BadForm, {"field": field}, call, signs, form)
        self.raises(BadForm, {"field": field}, readings, signs, form, "x")

    def good(self, *fields):
        for field in fields:
            self.same(check_form("012", (field,)), (field,))
            self.same(check_form("012", (("words", "first", ("0",)), field)), (("words", "first", ("0",)), field))

    def test_signs_go_ahead_and_papers_come_last(self):
        for call in (lambda: check_form("0", 5), lambda: form_walk("0", 5), lambda: readings("0", 5, 5)):
            self.raises(BadSigns, {"signs": "0"}, call)
        self.raises(BadPaper, {"paper": "2"}, readings, "01", (RUN,), "2")
        self.raises(BadPaper, {"paper": "0" * 61}, readings, "01", (RUN,), "0" * 61)
        self.raises(Twice, {"name": "a"}, readings, "01", (RUN, RUN), "2")

    def test_the_whole(self):
        for form in (*ODD_THINGS, {0: RUN}, "run"):
            if form != (1, 2):
                self.bad(form, -1)
        self.bad((1, 2), 0)
        names = "abcdefg"
        form = tuple(("run", name, "0", 0, None) for name in names)
        self.same(check_form("012", form[:6]), form[:6])
        self.bad(form, -1)
        self.bad((5,) * 7, -1)

    def test_runs(self):
        self.good(("run", "a", "0", 0, 1), ("run", "a", "012", 12, 12), ("run", "a", "02", 12, None),
                  ("run", "a", "12", 0, 12), ("run", "a", "1", 1, 1), ("run", "a", "1", 0, None))
        for field in (("run", "a", "", 0, 1), ("run", "a", "3", 0, 1), ("run", "a", "10", 0, 1),
                      ("run", "a", "00", 0, 1), ("run", "a", ("0",), 0, 1), ("run", "a", "0", -1, 1),
                      ("run", "a", "0", 13, None), ("run", "a", "0", 0, 0), ("run", "a", "0", 0, 13),
                      ("run", "a", "0", 3, 2), ("run", "a", "0", None, 2), ("run", "a", "0", 0, "1"),
                      ("run", "a", "0", False, 1), ("run", "a", "0", 0, True), ("run", "a", "0", True, None),
                      ("run", "a", "0", 0), ("run", "a", "0", 0, 1, 1), ("run", "A", "0", 0, 1),
                      ("run", "run", "0", 0, 1), ("run", 5, "0", 0, 1), ("run",), ("walk", "a", "0", 0, 1), RUN[1:]):
            self.bad((field,), 0)
            self.bad((("words", "b", ("0",)), field), 1)

    def test_words(self):
        twelve = tuple(first + second + third for first in "01" for second in "01" for third in "012")
        self.good(("words", "a", ("0",)), ("words", "a", ("2222", "0", "01")), ("words", "a", twelve))
        for field in (("words", "a", ()), ("words", "a", (*twelve, "0000")), ("words", "a", ("",)),
                      ("words", "a", ("00000",)), ("words", "a", ("0", "0")), ("words", "a", ("3",)),
                      ("words", "a", "01"), ("words", "a", ("0", 1)), ("words", "a", (("0",),)), ("words", "a"),
                      ("words", "a", ("0",), 1), ("words", "", ("0",)), ("words", "words", ("0",)), ("words",),
                      (["words"], "a", ("0",)), ("words", None, ("0",))):
            self.bad((field,), 0)
            self.bad((("run", "b", "0", 0, None), field), 1)
        for thing in ODD_THINGS:
            self.bad((thing,), 0)

    def test_the_first_bad_field_goes_ahead_of_names(self):
        self.bad((RUN, RUN, 5), 2)
        self.bad((RUN, 5, 6), 1)
        self.raises(Twice, {"name": "a"}, check_form, "01", (RUN, ("words", "b", ("0",)), ("words", "a", ("0",))))
        self.raises(Twice, {"name": "b"}, check_form, "01",
                    (RUN, ("words", "b", ("0",)), ("words", "b", ("0",)), RUN))

    def test_lists_are_kept_as_tuples(self):
        words = ["0", "1"]
        form = [["words", "a", words], ["run", "b", "01", 0, None]]
        told = check_form("01", form)
        words.append("00")
        form[1][2] = "1"
        self.same(told, (("words", "a", ("0", "1")), ("run", "b", "01", 0, None)))
        self.same(readings("01", form, "11"), (("1", "1"),))


class TestReadings(Case):
    def test_in_the_order_of_the_lengths(self):
        form = (("run", "a", "01", 0, None), ("run", "b", "1", 0, 2), ("words", "c", ("1", "11", "0")))
        self.same(readings("01", form, "111"), (
            ("", "1", "11"), ("", "11", "1"), ("1", "", "11"), ("1", "1", "1"), ("11", "", "1")))
        self.same(readings("01", form, "0"), (("", "", "0"),))
        self.same(readings("01", form, ""), ())
        self.same(readings("01", (RUN,), ""), (("",),))

    def test_words_are_read_by_their_lengths(self):
        form = (("words", "a", ("01", "0", "010")), ("run", "b", "01", 0, None))
        self.same(readings("01", form, "0101"), (("0", "101"), ("01", "01"), ("010", "1")))
        self.same(readings("01", form, "1"), ())

    def test_against_a_slow_look(self):
        dice = random.Random(11)
        for _ in range(120):
            form = some_form(dice, "012")
            for paper in dice.sample(papers_upto("012", 5), 25):
                told = readings("012", form, paper)
                self.same(told, tuple(sorted(readings_of(form, paper), key=lambda parts: [len(x) for x in parts])))

    def test_five_hundred(self):
        runs = (("run", "a", "01", 0, None), ("run", "b", "01", 0, None), ("run", "c", "01", 0, None))
        # A paper of n signs has (n + 1)(n + 2) / 2 readings by three runs.
        self.assertEqual(len(readings("01", runs, "0" * 30)), 496)
        self.raises(TooMany, {"what": "reading"}, readings, "01", runs, "0" * 31)
        runs = (("run", "a", "01", 0, None), ("run", "b", "01", 0, 9), ("run", "c", "01", 0, 9))
        self.assertEqual(len(readings("01", runs, "0" * 60)), 100)

    def test_five_hundred_and_one(self):
        def form(second, third, fourth):
            return (("run", "a", "0", 0, None), ("run", "b", "0", 0, second), ("run", "c", "0", 2, third),
                    ("run", "d", "0", 0, fourth))

        self.assertEqual(len(readings_of(form(3, 11, 12), "0" * 22)), 500)
        self.assertEqual(len(readings("01", form(3, 11, 12), "0" * 22)), 500)
        self.assertEqual(len(readings_of(form(11, 7, 12), "0" * 16)), 501)
        self.raises(TooMany, {"what": "reading"}, readings, "01", form(11, 7, 12), "0" * 16)
        # That there are too many is no matter of the form, and none where nobody asks for readings.
        self.assertEqual(len(readings("01", form(11, 7, 12), "0" * 7)), len(readings_of(form(11, 7, 12), "0" * 7)))
        self.assertTrue(form_walk("01", form(11, 7, 12)).right("0" * 16))

    def test_very_many(self):
        form = tuple(("run", name, "01", 0, None) for name in "abcdef")
        self.raises(TooMany, {"what": "reading"}, readings, "01", form, "01" * 30)
        # Very many beginnings of readings, of which none comes to the end.
        none = (*form[:5], ("words", "f", ("2",)))
        self.same(readings("012", none, "01" * 30), ())
        few = (*form[:1], *[("run", name, "1", 0, None) for name in "bcde"], ("words", "f", ("2",)))
        self.same(readings("012", few, "01" * 29 + "02"), (("01" * 29 + "0", "", "", "", "", "2"),))


class TestWalk(Case):
    def test_against_the_readings(self):
        dice = random.Random(13)
        papers = papers_upto("012", 5)
        for _ in range(120):
            form = some_form(dice, "012")
            walk = form_walk("012", form)
            for paper in papers:
                self.assertEqual(walk.right(paper), bool(readings_of(form, paper)), (form, paper))

    def test_plain_forms(self):
        self.assertEqual(form_walk("01", (RUN,)), Walk.everything("01"))
        walk = form_walk("01", (("run", "a", "1", 1, 1),))
        self.same((walk.rows, walk.goals), (((1, 2), (1, 1), (1, 1)), (2,)))
        self.assertEqual(len(form_walk("01", (("run", "a", "01", 12, 12),))), 14)
        self.assertEqual(form_walk("01", [list(RUN)]), form_walk("01", (RUN,)))

    def test_too_many_standings(self):
        # Which of the last signs were a 1 has to be kept.
        def form(many):
            return (("run", "a", "01", 0, None), ("words", "b", ("1",)), ("run", "c", "01", many, many))

        self.assertEqual(len(form_walk("01", form(6))), 128)
        self.raises(TooMany, {"what": "standing"}, form_walk, "01", form(7))
        self.raises(TooMany, {"what": "standing"}, form_walk, "01", form(9))
        self.same(check_form("01", form(9)), form(9))
        self.same(readings("01", form(9), "1" + "0" * 9), (("", "1", "0" * 9),))

    def test_as_large_as_it_may_be(self):
        form = tuple(("run", name, "01", 12, 12) for name in "abcdef")
        self.assertEqual(len(form_walk("01", form)), 74)
        words = tuple(first + second + "01" for first in "012" for second in "0123")
        form = tuple(("words", name, words) for name in "abcdef")
        walk = form_walk("0123", form)
        self.assertTrue(walk.right("0001" * 6))
        self.assertFalse(walk.right("0001" * 5))
