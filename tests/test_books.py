"""Promises [36] and [37]: books, their deeds, and what they tell."""

import random

from brute import key_of, numbers_upto
from handcarried.books import Book
from handcarried.errors import (
    BadDeed, BadRule, CarryError, NoBlock, NoNumber, NotInForce, NotVoid, TooMany, Twice, Unknown,
)
from handcarried.ranks import next_number, nth_number, rank_of
from handcarried.series import Series
from handcarried.trials import Trial, tried
from helpers import ODD_THINGS, Case, example_series, free_series
from test_crossings import exactly, rounds

ANY = ("any",)
EVEN = free_series("even", "01", ("sum", 2, (1,), 0))
WIDE = free_series("wide", "0AZ")
DAY = ("day",)
LARGE = ("sum", 60, (1, 2, 3), 0)


def fresh():
    return Book((EVEN, WIDE), ("north", "south"))


class TestBook(Case):
    def refused(self, book, kind, told, *deeds):
        """These deeds raise this error, and none of them has been done."""
        ahead = (book.deeds, book.today, [book.issued(series.name) for series in book.serieses], book.copy())
        self.raises(kind, told, book.do, *deeds)
        self.assertEqual((book.deeds, book.today, [book.issued(series.name) for series in book.serieses]), ahead[:3])
        self.assertEqual(book, ahead[3])

    def test_a_new_book(self):
        book = fresh()
        self.assertEqual((book.serieses, book.branches, book.deeds, book.today), ((EVEN, WIDE), ("north", "south"), (), 0))
        self.same((len(book), list(book), book.issued("even"), book.aside("north", "wide")), (0, [], (), ()))
        book = Book([EVEN], [])
        self.same((book.branches, book.serieses.__class__), ((), tuple))

    def test_names_that_stand_twice(self):
        even = free_series("even", "012")
        self.raises(Twice, {"name": "even"}, Book, (EVEN, WIDE, even, WIDE), ("north", "north"))
        self.raises(Twice, {"name": "wide"}, Book, (EVEN, WIDE, WIDE, even), ())
        self.raises(Twice, {"name": "south"}, Book, (EVEN,), ("north", "south", "south", "north"))
        self.raises(Twice, {"name": "a"}, Book, [EVEN], ["a", "b", "c", "a"])
        # A branch may have the name of a series.
        self.assertEqual(len(Book((EVEN,), ("even",))), 0)

    def test_issue(self):
        book = fresh()
        self.assertIsNone(book.do(("issue", "even", 3)))
        self.same(book.issued("even"), (("", 0, 0, "", 1), ("0", 0, 0, "", 1), ("00", 0, 0, "", 1)))
        book.do(DAY, ["issue", "even", 1], ("issue", "wide", 2))
        self.same(book.issued("even")[3:], (("11", 1, 0, "", 1),))
        self.same(book.issued("wide"), (("", 1, 0, "", 1), ("0", 1, 0, "", 1)))
        self.same(book.deeds, (("issue", "even", 3), DAY, ("issue", "even", 1), ("issue", "wide", 2)))
        self.same(list(book), list(book.deeds))
        self.assertEqual(len(book), 4)
        self.refused(book, Unknown, {"name": "odds"}, ("issue", "odds", 1))
        self.refused(book, Unknown, {"name": "north"}, DAY, ("issue", "north", 20), DAY)

    def test_no_number(self):
        book = Book((exactly("01", "0", "01", "1"),), ())
        self.refused(book, NoNumber, {"number": "few"}, ("issue", "few", 4))
        book.do(("issue", "few", 2))
        self.refused(book, NoNumber, {"number": "few"}, ("issue", "few", 2))
        book.do(("issue", "few", 1))
        self.refused(book, NoNumber, {"number": "few"}, ("issue", "few", 1))
        # In the order of papers: 0, 1, 01.
        self.same([row[0] for row in book.issued("few")], ["0", "1", "01"])

    def test_numbers_of_at_most_sixty_signs(self):
        book = Book((Series("long", "01", (("run", "a", "0", 0, None),), ("cut", 3, 3, rounds(50).rule)),), ("north",))
        # The numbers have 6, 56, 106 .. zeros, and the third one is too long.
        self.refused(book, NoNumber, {"number": "long"}, ("issue", "long", 3))
        self.refused(book, NoNumber, {"number": "long"}, ("block", "north", "long", 3))
        book.do(("issue", "long", 2))
        self.same([len(row[0]) for row in book.issued("long")], [6, 56])
        self.refused(book, NoNumber, {"number": "long"}, ("issue", "long", 1))
        sixty = Book((Series("long", "01", (("run", "a", "0", 0, None),), ("sum", 2, (1,), 0)),), ())
        sixty.do(*[("issue", "long", 20)] * 3)
        self.same(sixty.issued("long")[-1][0], "0" * 59)
        sixty.do(("issue", "long", 1))
        self.same(sixty.state("long", "0" * 60), "issued")
        self.refused(sixty, NoNumber, {"number": "long"}, ("issue", "long", 1))

    def test_block_and_use(self):
        book = fresh()
        book.do(("issue", "even", 1), ("block", "north", "even", 2), ("block", "south", "even", 1), ("issue", "even", 1))
        self.same(book.issued("even"), (("", 0, 0, "", 1), ("000", 0, 0, "", 1)))
        self.same((book.aside("north", "even"), book.aside("south", "even")), (("0", "00"), ("11",)))
        book.do(DAY, ("use", "north", "even"), DAY, ("use", "south", "even"))
        self.same(book.issued("even")[2:], (("0", 1, 0, "north", 1), ("11", 2, 0, "south", 1)))
        self.same((book.aside("north", "even"), book.aside("south", "even")), (("00",), ()))
        self.refused(book, NoBlock, {"branch": "south"}, ("use", "south", "even"))
        self.refused(book, NoBlock, {"branch": "north"}, ("use", "north", "even"), ("use", "north", "even"))
        self.refused(book, NoBlock, {"branch": "north"}, ("use", "north", "wide"))
        book.do(("block", "north", "even", 1))
        self.same(book.aside("north", "even"), ("00", "011"))
        # The branch goes ahead of the series, and both of what else is wrong.
        for word in ("block", "use"):
            rest = (20,) if word == "block" else ()
            self.refused(book, Unknown, {"name": "west"}, (word, "west", "odds", *rest))
            self.refused(book, Unknown, {"name": "odds"}, (word, "north", "odds", *rest))
            self.refused(book, Unknown, {"name": "even"}, (word, "even", "north", *rest))
        few = Book((exactly("01", "0"),), ("north",))
        self.refused(few, NoNumber, {"number": "few"}, ("block", "north", "few", 2))

    def test_void_and_again(self):
        book = fresh()
        book.do(("issue", "even", 2), ("block", "north", "even", 1))
        self.refused(book, NotInForce, {"paper": "11"}, ("void", "even", "11"))
        self.refused(book, NotInForce, {"paper": "00"}, ("void", "even", "00"))
        self.refused(book, NotInForce, {"paper": "Z"}, ("void", "even", "Z"))
        self.refused(book, NotInForce, {"paper": "0"}, ("void", "wide", "0"))
        self.refused(book, NotVoid, {"paper": "0"}, ("again", "even", "0"))
        self.refused(book, NotVoid, {"paper": "00"}, ("again", "even", "00"))
        book.do(DAY, ("void", "even", ""))
        self.same(book.issued("even"), (("", 0, 0, "", 0), ("0", 0, 0, "", 1)))
        self.refused(book, NotInForce, {"paper": ""}, ("void", "even", ""))
        book.do(("again", "even", ""))
        self.same(book.issued("even"), (("", 0, 0, "", 1), ("0", 0, 0, "", 1)))
        self.refused(book, NotVoid, {"paper": ""}, ("again", "even", ""))
        self.refused(book, Unknown, {"name": "odds"}, ("void", "odds", "11"))
        self.refused(book, Unknown, {"name": "odds"}, ("again", "odds", "11"))

    def test_days(self):
        book = fresh()
        for day in range(1, 4):
            book.do(DAY)
            self.same(book.today, day)
        book.do(DAY, [*DAY])
        self.same((book.today, book.deeds), (5, (DAY,) * 5))

    def test_editions(self):
        book = fresh()
        book.do(("issue", "even", 2), ("block", "north", "even", 1), ("edition", "even", ["not", ["sum", 2, [1], 0]]))
        self.same(book.deeds[2], ("edition", "even", ("not", ("sum", 2, (1,), 0))))
        # Behind 00, which is set aside, the next numbers are those with an odd sum.
        book.do(("issue", "even", 2))
        self.same(book.issued("even")[2:], (("01", 0, 1, "", 1), ("10", 0, 1, "", 1)))
        # What was set aside is issued under the edition under which it was set aside.
        book.do(("use", "north", "even"), ("block", "north", "even", 1), ("edition", "even", ANY), ("use", "north", "even"),
                ("issue", "even", 1))
        self.same(book.issued("even")[4:], (("00", 0, 0, "north", 1), ("001", 0, 1, "north", 1), ("010", 0, 2, "", 1)))
        self.assertEqual(book.serieses, (EVEN, WIDE))
        self.assertEqual(book.edition("even", 0), EVEN)
        self.assertEqual(book.edition("even", 2), free_series("even", "01"))
        self.assertEqual(book.edition("even", 1).rule, ("not", ("sum", 2, (1,), 0)))
        for number in (3, -1, 10 ** 39):
            self.raises(NoNumber, {"number": number}, book.edition, "even", number)
        self.raises(NoNumber, {"number": 1}, book.edition, "wide", 1)
        self.raises(Unknown, {"name": "odds"}, book.edition, "odds", 9)

    def test_the_errors_of_an_edition(self):
        book = fresh()
        self.refused(book, Unknown, {"name": "odds"}, ("edition", "odds", 5))
        for rule in (*ODD_THINGS, ("sum", 1, (0,), 0), ("sum", 2, (1,), True)):
            self.refused(book, BadRule, {"rule": rule}, ("edition", "even", rule))
        inner = ["sum", 2, [2], 0]
        self.refused(book, BadRule, {"rule": inner}, ("edition", "even", ["not", inner]))
        many = ANY
        for _ in range(40):
            many = ("not", many)
        self.refused(book, TooMany, {"what": "rule"}, ("edition", "even", many))
        self.refused(book, TooMany, {"what": "standing"}, DAY, ("edition", "even", LARGE))
        form = (("run", "a", "0123456789", 12, 12),)
        book = Book((Series("large", "0123456789", form, ANY),), ())
        self.refused(book, TooMany, {"what": "standing"}, ("edition", "large", ("sum", 59, (1, 7), 0)))

    def test_the_first_numbers_of_an_empty_edition(self):
        book = Book((EVEN,), ())
        book.do(("edition", "even", ("not", ANY)))
        self.refused(book, NoNumber, {"number": "even"}, ("issue", "even", 1))
        book.do(("edition", "even", ANY), ("issue", "even", 2))
        self.same(book.issued("even"), (("", 0, 2, "", 1), ("0", 0, 2, "", 1)))

    def test_bad_deeds(self):
        book = fresh()
        book.do(DAY, DAY)
        bad = [*ODD_THINGS, "day", ("Day",), ("day", 0), ("days",), (DAY,), ("issue",), ("issue", "even"),
               ("issue", "even", 1, 1), ("use", "north"), ("use", "north", "even", 1), ("block", "north", "even"),
               ("void", "even"), ("void", "even", "0", 0), ("edition", "even"), ("edition", "even", ANY, ANY), ([],), (None,)]
        bad += [("issue", "even", many) for many in (0, 21, -1, True, None, "1", 1.0, (1,), 10 ** 39)]
        bad += [("block", "north", "even", many) for many in (0, 21, True, None)]
        for name in (*ODD_THINGS, "Even", "day", "issue", "ninechars", "even ", "e1"):
            bad += [("issue", name, 1), ("block", name, "even", 1), ("block", "north", name, 1), ("use", name, "even"),
                    ("use", "north", name), ("void", name, "0"), ("again", name, "0"), ("edition", name, ANY)]
        for paper in (*[thing for thing in ODD_THINGS if not isinstance(thing, str)], "0" * 61, "a", "0 ", "-"):
            bad += [("void", "even", paper), ("again", "even", paper), ("void", "odds", paper)]
        for deed in bad:
            self.refused(book, BadDeed, {"deed": 2}, deed)
            # Deeds are judged when their turn comes.
            self.refused(book, BadDeed, {"deed": 4}, DAY, ("issue", "even", 1), deed, ("issue", "odds", 1))
            self.refused(book, Unknown, {"name": "odds"}, DAY, ("issue", "odds", 1), deed)

    def test_forty_deeds(self):
        book = fresh()
        book.do(*[DAY] * 39)
        self.refused(book, TooMany, {"what": "deed"}, DAY, DAY)
        book.do(DAY)
        self.same((len(book), book.today), (40, 40))
        self.refused(book, TooMany, {"what": "deed"}, DAY)
        # Ahead of the errors of the deed itself, but behind that of its form.
        self.refused(book, TooMany, {"what": "deed"}, ("issue", "odds", 1))
        self.refused(book, BadDeed, {"deed": 40}, ("issue", "even", 0))
        self.refused(book, TooMany, {"what": "deed"}, DAY, None)
        self.assertIsNone(book.do())

    def test_upto_copy_and_equal(self):
        book = fresh()
        book.do(("issue", "even", 2), DAY, ("void", "even", "0"), ("edition", "even", ANY))
        for many in range(5):
            other = book.upto(many)
            self.assertEqual(other.deeds, book.deeds[:many])
            again = fresh()
            again.do(*book.deeds[:many])
            self.assertTrue(other == again)
            self.same((other.issued("even"), other.today), (again.issued("even"), again.today))
            self.same(other.readers("1"), again.readers("1"))
        copy = book.copy()
        self.assertTrue(copy == book)
        self.assertIsNot(copy, book)
        copy.do(DAY)
        self.assertFalse(copy == book)
        self.same((copy.today, book.today, len(book)), (2, 1, 4))
        book.upto(2).do(DAY, DAY)
        self.assertEqual(len(book), 4)
        for other in (Book((EVEN,), ("north", "south")), Book((WIDE, EVEN), ("north", "south")), Book((EVEN, WIDE), ("north",)),
                      *ODD_THINGS, EVEN):
            self.assertIs(fresh() == other, False)
            self.assertIs(fresh() != other, True)
        self.assertTrue(fresh() == Book([free_series("even", "01", ("sum", 2, (1,), 0)), WIDE], ["north", "south"]))

    def test_states(self):
        book = fresh()
        book.do(("issue", "even", 2), ("block", "north", "even", 2), ("void", "even", "0"), ("use", "north", "even"))
        self.same([book.state("even", paper) for paper in ("", "0", "00", "11", "000", "1", "x", " ", "0" * 99, "Z")],
                  ["issued", "void", "issued", "aside", "none", "none", "none", "none", "none", "none"])
        self.same(book.state("wide", ""), "none")
        book.do(("block", "south", "even", 2), ("block", "north", "wide", 2))
        self.same([book.state("even", paper) for paper in ("11", "000", "011")], ["aside"] * 3)
        self.same([book.state("wide", paper) for paper in ("", "0", "A", "000")], ["aside", "aside", "none", "none"])
        book.do(("again", "even", "0"), ("use", "north", "even"))
        self.same([book.state("even", paper) for paper in ("0", "11")], ["issued", "issued"])

    def test_readers(self):
        book = Book((EVEN, WIDE, free_series("odds", "01", ("sum", 2, (1,), 1))), ())
        book.do(("edition", "even", ANY), ("edition", "odds", ("not", ANY)), ("edition", "even", ("not", ANY)))
        self.same(book.readers("0"), (("even", 0), ("even", 1), ("wide", 0)))
        self.same(book.readers("1"), (("even", 1), ("odds", 0)))
        self.same(book.readers("ZA"), (("wide", 0),))
        for paper in ("x", "2", "0" * 61, "0 ", "a"):
            self.same(book.readers(paper), ())
        self.same(len(book.readers("0" * 60)), 3)

    def test_unknown(self):
        book = fresh()
        for name in ("odds", "north", "", "Even"):
            for call, rest in ((book.issued, ()), (book.state, ("0",)), (book.edition, (0,))):
                self.raises(Unknown, {"name": name}, call, name, *rest)
            self.raises(Unknown, {"name": name}, book.aside, "north", name)
        self.raises(Unknown, {"name": "west"}, book.aside, "west", "odds")
        self.raises(Unknown, {"name": "even"}, book.aside, "even", "north")

    def test_what_is_told_belongs_to_the_caller(self):
        book = fresh()
        deed = ["edition", "even", ["not", ["any"]]]
        book.do(deed)
        deed[2][1][0] = "sum"
        self.same(book.deeds, (("edition", "even", ("not", ("any",))),))

    def test_numbers_in_their_order(self):
        dice = random.Random(353)
        for _ in range(30):
            series = dice.choice([EVEN, example_series("even"), rounds(3, name="even")])
            book = Book((series,), ("north",))
            while len(book) < 12:
                book.do(dice.choice([("issue", "even", dice.randrange(1, 4)), ("block", "north", "even", 2), DAY]))
            told = [row[0] for row in book.issued("even")] + list(book.aside("north", "even"))
            ranks = sorted(rank_of(series, paper) for paper in told)
            self.assertEqual(ranks, list(range(len(told))))
            self.assertEqual([nth_number(series, rank) for rank in ranks], sorted(told, key=key_of))
            if told:
                ahead = max(told, key=key_of)
                book.do(("issue", "even", 1))
                self.same(book.issued("even")[-1][0], next_number(series, ahead))


class SlowBook:
    """A book told plainly: what stands in dicts and lists by the names."""

    def __init__(self, book):
        self.series = {series.name: [series] for series in book.serieses}
        self.rows = []
        self.aside = []
        self.day = 0

    def next_papers(self, name, many):
        known = [row[1] for row in self.rows if row[0] == name] + [row[2] for row in self.aside if row[1] == name]
        latest = max(known, key=key_of, default=None)
        papers = [paper for paper in numbers_upto(self.series[name][-1], 6)
                  if latest is None or key_of(paper) > key_of(latest)]
        return papers[:many]

    def do(self, deed):
        word, *rest = deed
        if word == "day":
            self.day += 1
        elif word == "issue":
            for paper in self.next_papers(*rest):
                self.rows.append([rest[0], paper, self.day, len(self.series[rest[0]]) - 1, "", 1])
        elif word == "block":
            for paper in self.next_papers(*rest[1:]):
                self.aside.append((rest[0], rest[1], paper, len(self.series[rest[1]]) - 1))
        elif word == "use":
            row = next((row for row in self.aside if list(row[:2]) == rest), None)
            if row is None:
                raise NoBlock(rest[0])
            self.aside.remove(row)
            self.rows.append([row[1], row[2], self.day, row[3], row[0], 1])
        elif word == "edition":
            old = self.series[rest[0]][0]
            self.series[rest[0]].append(Series(old.name, old.signs, old.form, rest[1]))
        else:
            row = next((row for row in self.rows if row[:2] == rest), None)
            wanted = 1 if word == "void" else 0
            if row is None or row[5] != wanted:
                raise (NotInForce if wanted else NotVoid)(rest[1])
            row[5] = 1 - wanted


def some_deed(dice):
    name = dice.choice(["even", "even", "wide"])
    branch = dice.choice(["north", "south"])
    paper = dice.choice(["", "0", "00", "11", "01"])
    return dice.choice([("issue", name, dice.randrange(1, 4)), ("block", branch, name, dice.randrange(1, 3)),
                        ("use", branch, name), ("use", branch, name), ("void", name, paper), ("again", name, paper),
                        DAY, ("edition", name, dice.choice([ANY, ("sum", 2, (1,), 0), ("sum", 3, (1,), 1)]))])


class TestAgainstASlowBook(Case):
    def test_deeds_by_chance(self):
        dice = random.Random(359)
        kinds = set()
        for _ in range(60):
            book = fresh()
            slow = SlowBook(book)
            for _ in range(15):
                deed = some_deed(dice)
                if max([len(row[1]) for row in slow.rows] + [len(row[2]) for row in slow.aside] + [0]) > 3:
                    break
                try:
                    slow.do(deed)
                except CarryError as error:
                    kinds.add(error.__class__)
                    self.raises(error.__class__, error.__dict__, book.do, deed)
                    continue
                book.do(deed)
                for name in ("even", "wide"):
                    self.same(book.issued(name), tuple(tuple(row[1:]) for row in slow.rows if row[0] == name))
                    for branch in ("north", "south"):
                        self.same(book.aside(branch, name), tuple(row[2] for row in slow.aside if row[:2] == (branch, name)))
                self.same(book.today, slow.day)
        self.assertEqual(kinds, {NoBlock, NotInForce, NotVoid})


class TestTrials(Case):
    def test_a_trial(self):
        book = fresh()
        book.do(("issue", "even", 1))
        with book.trial() as tried_book:
            self.assertIs(tried_book, book)
            book.do(DAY, ("issue", "even", 2), ("edition", "even", ANY))
            self.same((book.today, len(book), book.readers("1")), (1, 4, (("even", 1),)))
        self.same((book.today, len(book), book.readers("1")), (0, 1, ()))
        self.same(book.issued("even"), (("", 0, 0, "", 1),))
        book.do(("issue", "even", 1))
        self.same(book.issued("even")[-1], ("0", 0, 0, "", 1))

    def test_within_one_another_and_used_again(self):
        book = fresh()
        trial = book.trial()
        self.assertIsInstance(trial, Trial)
        for trials in ((trial, trial, trial), (trial, Trial(book), book.trial())):
            with trials[0]:
                book.do(DAY)
                with trials[1]:
                    book.do(DAY)
                    with trials[2]:
                        book.do(DAY)
                        self.same(book.today, 3)
                    self.same(book.today, 2)
                    book.do(DAY, DAY)
                self.same(book.today, 1)
            self.same((book.today, book.deeds), (0, ()))
        book.do(DAY)
        with trial:
            book.do(DAY)
        # A trial that is used again holds what the book has by then.
        self.same(book.today, 1)

    def test_an_error_in_the_block(self):
        book = fresh()
        trial = book.trial()
        for _ in range(2):
            with self.assertRaises(Unknown):
                with trial:
                    book.do(DAY)
                    book.do(("issue", "odds", 1))
            self.same(len(book), 0)
            with self.assertRaises(ZeroDivisionError):
                with trial as held:
                    held.do(DAY)
                    1 // 0
            self.same(len(book), 0)

    def test_books_made_in_a_trial(self):
        book = fresh()
        with book.trial():
            book.do(DAY)
            copy = book.copy()
        self.same((copy.today, book.today), (1, 0))
        copy.do(DAY)
        self.same((copy.today, book.today), (2, 0))

    def test_tried(self):
        book = fresh()
        book.do(DAY)
        deeds = (DAY, ("issue", "even", 2), ("void", "even", "0"))
        many, other = tried(book, deeds)
        self.same((many, other.deeds, book.deeds), (3, (DAY, *deeds), (DAY,)))
        self.same(other.issued("even"), (("", 2, 0, "", 1), ("0", 2, 0, "", 0)))
        self.assertIsNot(other, book)
        other.do(DAY)
        self.same(len(book), 1)
        self.same(tried(book, ())[0], 0)
        self.assertTrue(tried(book, [])[1] == book)

    def test_a_deed_that_is_refused_at_each_place(self):
        wrong = (("issue", "odds", 1), ("use", "north", "even"), ("void", "even", "Z"), ("again", "even", "0"), None, True, (),
                 ("block", "west", "even", 1), ("edition", "even", 5), ("edition", "even", LARGE), ("day", 1))
        for deed in wrong:
            for place in range(4):
                deeds = [DAY, ("issue", "even", 1), DAY]
                deeds.insert(place, deed)
                book = fresh()
                many, other = tried(book, deeds)
                self.same((many, len(other), len(book)), (place, place, 0))
                self.same(other.deeds, tuple(deeds[:place]))
        book = fresh()
        many, other = tried(book, [DAY] * 50)
        self.same((many, other.today, book.today), (40, 40, 0))
        few = Book((exactly("01", "0", "1"),), ())
        self.same(tried(few, [("issue", "few", 1)] * 3)[0], 2)

    def test_tried_in_a_trial(self):
        book = fresh()
        with book.trial():
            book.do(DAY)
            many, other = tried(book, (DAY, ("issue", "odds", 1)))
            self.same((many, len(other), len(book)), (1, 2, 1))
        self.same((len(other), len(book)), (2, 0))
