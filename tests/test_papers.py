"""Promises [2] and [3]: signs, papers, names, order and lags."""

import random

from handcarried.errors import BadName, BadPaper, BadSigns
from handcarried.hands import Hand
from handcarried.papers import in_order, lag_of, lag_on, paper_key, sign_value
from handcarried.rules import is_right
from handcarried.series import Series
from handcarried.walks import Walk
from helpers import ODD_THINGS, Case

WORDS = """signs series run words rule any sum square faces back cut both either not hand slip way desk clerk spell echo
    issue block use void again day edition""".split()
FREE_FORM = (("run", "part", "01", 0, None),)


class TestSigns(Case):
    def test_the_value_of_a_sign_is_its_place(self):
        self.assertEqual([sign_value("05AZ", sign) for sign in "05AZ"], [0, 1, 2, 3])
        self.assertEqual(sign_value("0123456789AB", "B"), 11)
        self.assertEqual(sign_value("XZ", "Z"), 1)

    def test_signs_are_two_to_twelve(self):
        self.assertEqual(sign_value("YZ", "Z"), 1)
        self.assertEqual(sign_value("0123456789AB", "A"), 10)
        for signs in ("", "0", "0123456789ABC"):
            self.raises(BadSigns, {"signs": signs}, sign_value, signs, "0")

    def test_signs_are_ascending_characters(self):
        for signs in ("10", "00", "001", "011", "A0", "ab", "0a", "0 ", " 0", "0-", "0:", "9@A", "A[", "01x"):
            self.raises(BadSigns, {"signs": signs}, sign_value, signs, "0")

    def test_signs_are_a_string(self):
        for signs in (("0", "1"), ["0", "1"], 1, None, True, b"01"):
            self.raises(BadSigns, {"signs": signs}, sign_value, signs, "0")
            self.raises(BadSigns, {"signs": signs}, Walk.everything, signs)
            self.raises(BadSigns, {"signs": signs}, Hand, "some", signs, ())


class TestPapers(Case):
    def test_papers_have_at_most_sixty_signs(self):
        walk = Walk.everything("01")
        self.assertTrue(walk.right("01" * 30))
        self.assertTrue(is_right("01", ("any",), "0" * 60))
        self.assertTrue(walk.right(""))
        for paper in ("0" * 61, "0" * 2000):
            self.raises(BadPaper, {"paper": paper}, walk.right, paper)
            self.raises(BadPaper, {"paper": paper}, walk.standing, paper)
            self.raises(BadPaper, {"paper": paper}, is_right, "01", ("any",), paper)

    def test_papers_are_strings_of_the_signs(self):
        walk = Walk.everything("01")
        for paper in ("2", "012", "0 1", "x", ("0",), ["0", "1"], 0, True, None, b"0"):
            self.raises(BadPaper, {"paper": paper}, walk.right, paper)
            self.raises(BadPaper, {"paper": paper}, is_right, "01", ("any",), paper)

    def test_order(self):
        self.same(paper_key("012"), (3, "012"))
        self.same(paper_key(""), (0, ""))
        self.same(in_order(("10", "", "9", "01", "A", "000")), ("", "9", "A", "01", "10", "000"))
        self.same(in_order(()), ())
        self.same(in_order(["1", "0"]), ("0", "1"))

    def test_papers_that_stand_twice_stay(self):
        self.same(in_order(("1", "0", "1", "", "0", "1")), ("", "0", "0", "1", "1", "1"))

    def test_what_is_put_in_order_is_not_changed(self):
        papers = ["1", "0", "1"]
        in_order(papers)
        self.assertEqual(papers, ["1", "0", "1"])

    def test_order_takes_long_papers(self):
        self.assertEqual(in_order(("1" * 61, "0" * 61, "1" * 60)), ("1" * 60, "0" * 61, "1" * 61))


class TestNames(Case):
    def good(self, name):
        self.assertEqual(Series(name, "01", FREE_FORM, ("any",)).name, name)
        self.assertEqual(Hand(name, "01", ()).name, name)

    def bad(self, name):
        self.raises(BadName, {"name": name}, Series, name, "01", FREE_FORM, ("any",))
        self.raises(BadName, {"name": name}, Hand, name, "01", ())

    def test_one_to_eight_letters(self):
        for name in ("a", "z", "abcdefgh", "zzzzzzzz", "letters"):
            self.good(name)
        for name in ("", "abcdefghi", "A", "aB", "a1", "a ", " a", "a-b", "a_b", "{", "`"):
            self.bad(name)

    def test_the_words_are_no_names(self):
        self.assertEqual(len(WORDS), 28)
        for name in WORDS:
            self.bad(name)

    def test_names_that_are_nearly_words(self):
        for name in ("sign", "seriess", "rules", "hands", "ways", "days", "xday", "sun", "nots", "anya", "house"):
            self.good(name)

    def test_other_things_are_no_names(self):
        for name in ODD_THINGS:
            self.bad(name)


class TestLags(Case):
    def test_the_four_kinds(self):
        self.assertEqual(lag_of("01", "01"), "=")
        self.assertEqual(lag_of("", ""), "=")
        self.assertEqual(lag_of("0120", "01"), "+20")
        self.assertEqual(lag_of("01", "0120"), "-20")
        self.assertEqual(lag_of("", "5"), "-5")
        self.assertEqual(lag_of("5", ""), "+5")
        self.assertEqual(lag_of("01", "02"), "#")
        self.assertEqual(lag_of("010", "02"), "#")
        self.assertEqual(lag_of("0", "12"), "#")

    def test_the_example(self):
        self.assertEqual(lag_on("+20", "", "2"), "+0")
        self.assertEqual(lag_on("+20", "", "1"), "#")

    def test_going_on_from_each_kind(self):
        self.assertEqual(lag_on("#", "", ""), "#")
        self.assertEqual(lag_on("#", "0", "0"), "#")
        self.assertEqual(lag_on("=", "", ""), "=")
        self.assertEqual(lag_on("=", "01", "01"), "=")
        self.assertEqual(lag_on("=", "01", "0"), "+1")
        self.assertEqual(lag_on("=", "0", "01"), "-1")
        self.assertEqual(lag_on("=", "0", "1"), "#")
        self.assertEqual(lag_on("+20", "", ""), "+20")
        self.assertEqual(lag_on("+20", "1", "20"), "+1")
        self.assertEqual(lag_on("+20", "1", "201"), "=")
        self.assertEqual(lag_on("+20", "1", "2013"), "-3")
        self.assertEqual(lag_on("+20", "1", "22"), "#")
        self.assertEqual(lag_on("-20", "", ""), "-20")
        self.assertEqual(lag_on("-20", "2", ""), "-0")
        self.assertEqual(lag_on("-20", "20", ""), "=")
        self.assertEqual(lag_on("-20", "201", ""), "+1")
        self.assertEqual(lag_on("-20", "2", "1"), "-01")
        self.assertEqual(lag_on("-20", "0", "20"), "#")

    def test_long_papers_piece_by_piece(self):
        dice = random.Random(3)
        for _ in range(300):
            first = "".join(dice.choice("01") for _ in range(dice.randrange(9)))
            second = first if dice.random() < 0.5 else "".join(dice.choice("01") for _ in range(dice.randrange(9)))
            second += dice.choice(["", "0", "10"])
            lag = "="
            one, other = first, second
            while one or other:
                a, b = dice.randrange(3), dice.randrange(3)
                lag = lag_on(lag, one[:a], other[:b])
                one, other = one[a:], other[b:]
            self.assertEqual(lag, lag_of(first, second))

    def test_any_length_and_any_signs(self):
        self.assertEqual(lag_of("z" * 100 + "%", "z" * 100), "+%")
        self.assertEqual(lag_on("-" + "a" * 90, "a" * 91, ""), "+a")
