"""Promise [37]: what papers can mean among the issued numbers of a book, and numbers that clash."""

import random

from brute import key_of
from handcarried.books import Book
from handcarried.errors import BadPaper, Unknown, Unlike
from handcarried.hands import Hand
from handcarried.holders import clashes, issued_meant
from handcarried.mending import meant
from handcarried.prices import least_price
from helpers import ODD_THINGS, Case, free_series
from test_books import DAY, EVEN, WIDE, some_deed
from test_prices import some_hand

TURN = Hand("turn", "01", (("a", 1, (("x", "y"),)),))
SWAP = Hand("swap", "01", (("a", 1, (("xy", "yx"),)),))
LOST = Hand("lost", "01", (("a", 2, (("x", ""),)),))
ALL = free_series("all", "01")


def slow_clashes(book, hand, most, order):
    """All clashes, by looking at all two numbers; order tells how the numbers of all series were issued."""
    out = []
    for one, number in order:
        for other, copy in order:
            if (one, number) != (other, copy):
                price = least_price(hand, number, copy)
                if price is not None and price <= most:
                    out.append((one, number, other, copy))
    return tuple(out)


class TestIssuedMeant(Case):
    def test_numbers_in_force(self):
        book = Book((ALL, EVEN), ("north",))
        book.do(("issue", "all", 7), ("block", "north", "all", 2), ("void", "all", "01"))
        # Of the numbers up to 11 the one that was taken back is not meant, nor what is set aside or never issued.
        self.same(issued_meant(book, "all", "11", TURN), ((0, "11"), (1, "10")))
        self.same(issued_meant(book, "all", "000", LOST, most=9), ())
        self.same(issued_meant(book, "all", "", LOST, most=9), ((0, ""), (2, "0"), (2, "1"), (4, "00"), (4, "10"), (4, "11")))
        self.same(issued_meant(book, "all", "", LOST, most=3), ((0, ""), (2, "0"), (2, "1")))
        self.same(issued_meant(book, "all", "01", SWAP), ((1, "10"),))
        self.same(issued_meant(book, "all", "01", SWAP, most=0), ())
        book.do(("again", "all", "01"), ("use", "north", "all"))
        self.same(issued_meant(book, "all", "01", SWAP), ((0, "01"), (1, "10")))
        self.same(issued_meant(book, "all", "000", TURN), ((0, "000"),))
        self.same(issued_meant(book, "even", "0", TURN), ())

    def test_the_number_is_what_was_copied(self):
        book = Book((ALL,), ())
        book.do(("issue", "all", 3))
        one = Hand("one", "01", (("a", 1, (("0", "1"),)),))
        self.same(issued_meant(book, "all", "1", one), ((0, "1"), (1, "0")))
        self.same(issued_meant(book, "all", "0", one), ((0, "0"),))

    def test_all_editions(self):
        book = Book((EVEN,), ())
        book.do(("issue", "even", 2), ("edition", "even", ("sum", 2, (1,), 1)), ("issue", "even", 3))
        self.same(issued_meant(book, "even", "00", TURN), ((1, "01"), (1, "10")))

    def test_the_order_of_the_errors(self):
        book = Book((ALL, WIDE), ())
        self.raises(Unknown, {"name": "odds"}, issued_meant, book, "odds", None, TURN)
        for paper in (*[thing for thing in ODD_THINGS if thing not in ("", "01")], "0" * 61, "A", "x"):
            self.raises(BadPaper, {"paper": paper}, issued_meant, book, "all", paper, Hand("other", "012", ()))
        self.raises(Unlike, {"what": "signs"}, issued_meant, book, "all", "01", Hand("other", "012", ()))
        self.raises(Unlike, {"what": "signs"}, issued_meant, book, "wide", "0A", TURN)
        self.same(issued_meant(book, "all", "0" * 60, TURN), ())

    def test_against_what_is_meant(self):
        # Among all numbers that were issued a paper means those that it means in the series.
        dice = random.Random(367)
        book = Book((ALL,), ())
        book.do(("issue", "all", 20), ("issue", "all", 11))
        issued = [row[0] for row in book.issued("all")]
        self.assertEqual(len(issued), 31)
        for _ in range(60):
            hand, most = some_hand(dice, "01", 5), dice.randrange(6)
            paper = dice.choice(issued)
            prices = [(least_price(hand, number, paper), number) for number in issued]
            wanted = sorted([(price, number) for price, number in prices if price is not None and price <= most],
                            key=lambda row: (row[0], key_of(row[1])))
            told = issued_meant(book, "all", paper, hand, most=most)
            self.same(told, tuple(wanted))
            level = all(len(before) == len(behind) for before, behind, _ in hand.pairs)
            if level:
                self.same(told, meant(ALL, hand, paper, most=most))


class TestClashes(Case):
    def test_two_numbers(self):
        book = Book((ALL,), ())
        book.do(("issue", "all", 5))
        # Issued are the empty paper, 0, 1, 00, 01.
        self.same(clashes(book, TURN), (("all", "0", "all", "1"), ("all", "1", "all", "0"), ("all", "00", "all", "01"),
                                        ("all", "01", "all", "00")))
        self.same(clashes(book, SWAP), ())
        self.same(clashes(book, LOST, most=2), (
            ("all", "0", "all", ""), ("all", "1", "all", ""), ("all", "00", "all", "0"), ("all", "01", "all", "0"),
            ("all", "01", "all", "1")))
        self.same(clashes(book, TURN, most=0), ())
        book.do(("void", "all", "1"))
        self.same(clashes(book, TURN), (("all", "00", "all", "01"), ("all", "01", "all", "00")))

    def test_two_series_that_have_issued_one_paper(self):
        book = Book((ALL, EVEN, WIDE), ())
        book.do(("issue", "all", 2), ("issue", "even", 2), ("issue", "wide", 3))
        self.same(clashes(book, TURN, most=0), (("all", "", "even", ""), ("all", "0", "even", "0"), ("even", "", "all", ""),
                                                ("even", "0", "all", "0")))
        book = Book((ALL, EVEN), ())
        book.do(("issue", "even", 2), ("issue", "all", 2))
        # In the order in which they were issued, whatever the order of the series.
        self.same(clashes(book, TURN, most=0), (("even", "", "all", ""), ("even", "0", "all", "0"), ("all", "", "even", ""),
                                                ("all", "0", "even", "0")))

    def test_hands_of_other_signs(self):
        book = Book((ALL, WIDE), ())
        book.do(("issue", "all", 3), ("issue", "wide", 3))
        turn = Hand("turn", "0AZ", (("a", 1, (("0", "A"),)),))
        self.same(clashes(book, turn), (("wide", "0", "wide", "A"),))
        self.same(clashes(book, Hand("turn", "012", (("a", 1, (("x", "y"),)),))), ())

    def test_issued_in_turn(self):
        book = Book((ALL, EVEN), ("north",))
        book.do(("block", "north", "all", 2), ("issue", "even", 1), ("use", "north", "all"), ("issue", "even", 1),
                ("use", "north", "all"))
        self.same(clashes(book, TURN, most=0), (("even", "", "all", ""), ("all", "", "even", ""), ("even", "0", "all", "0"),
                                                ("all", "0", "even", "0")))

    def test_many_numbers(self):
        book = Book((ALL,), ())
        book.do(*[("issue", "all", 20)] * 40)
        told = clashes(book, SWAP)
        self.assertGreater(len(told), 800)
        self.assertTrue(all(least_price(SWAP, row[1], row[3]) == 1 for row in told[:50]))

    def test_against_a_slow_look(self):
        dice = random.Random(373)
        some = []
        for _ in range(60):
            book = Book((free_series("even", "01"), free_series("wide", "01", ("sum", 2, (1,), 0))), ("north", "south"))
            order = []
            for _ in range(10):
                deed = some_deed(dice)
                ahead = {name: book.issued(name) for name in ("even", "wide")}
                try:
                    book.do(deed)
                except ValueError:
                    continue
                for name, rows in ahead.items():
                    order += [(name, row[0]) for row in book.issued(name)[len(rows):]]
            hand, most = some_hand(dice, "01", 3), dice.randrange(4)
            force = {name: {row[0] for row in book.issued(name) if row[4]} for name in ("even", "wide")}
            order = [(name, paper) for name, paper in order if paper in force[name]]
            told = clashes(book, hand, most=most)
            self.same(told, slow_clashes(book, hand, most, order))
            some.append(len(told))
        self.assertIn(0, some)
        self.assertGreater(max(some), 5)
        self.assertEqual(DAY, ("day",))
