"""The whole: the examples of the document, and answers of which the document says that they agree."""

import random

from brute import copies_upto, key_of, numbers_upto
from handcarried.alike import Alike, judge_alike
from handcarried.asking import Asking, judge_values
from handcarried.books import Book
from handcarried.cases import Cases, judge_cases, least_order
from handcarried.checks import Completion
from handcarried.close import Close, judge_close
from handcarried.crossings import Crossing, judge_crossing
from handcarried.deedtext import read_deeds, write_deeds
from handcarried.desks import Desks, needless_desks, with_desks, without_desk
from handcarried.doubts import Doubts, judge_doubts
from handcarried.errors import TooMany
from handcarried.finding import Finding, judge_finding
from handcarried.hands import Hand
from handcarried.holders import clashes, issued_meant
from handcarried.house import House
from handcarried.housetext import read_house, write_house
from handcarried.lean import lean_hand
from handcarried.mending import Mending, judge_mending, meant
from handcarried.papers import lag_of, lag_on
from handcarried.prices import copying_of, least_price
from handcarried.ranks import Roll, last_number, next_number, nth_number, rank_of
from handcarried.rules import is_right, rule_walk
from handcarried.settling import Settling
from handcarried.signatures import Signatures, fitting, signature_of
from handcarried.sights import perhaps, suspects, surely
from handcarried.squares import hiding_slip, is_square
from handcarried.stories import clean_story, follow
from handcarried.trials import tried
from handcarried.trust import CleanWay, Trust, judge_trust, lie_price
from handcarried.ways import Way
from handcarried.weights import Weights, judge_bars
from helpers import Case, free_series
from some_ways import little_hand, little_series, some_way, way_of
from test_close import level_hand

LINES = (
    "signs 0123", "series member", "run branch 01 1 1", "run serial 0123 1 any",
    "rule both sum 4 1,3 0 not square 1,0,0,0/1,1,1,1 1", "hand phone", "slip swap 1 xy yx", "slip lost 2 x - xx x",
    "way post member", "hand phone", "desk member", "echo phone 0",
)
SWAP = Hand("handy", "012", (("swap", 1, (("xy", "yx"),)),))
THREES = free_series("threes", "012", ("sum", 3, (1,), 0))


class TestExamples(Case):
    def test_lags(self):
        self.same(lag_of("0120", "01"), "+20")
        self.same(lag_on("+20", "", "2"), "+0")
        self.same(lag_on("+20", "", "1"), "#")

    def test_copyings(self):
        self.same(least_price(SWAP, "0122", "1022"), 1)
        self.same(copying_of(SWAP, "0122", "1022"), (("01", "10"), ("2", "2"), ("2", "2")))
        self.same(SWAP(copying_of(SWAP, "0122", "1022")), ("0122", "1022", 1))

    def test_missed(self):
        self.same(Finding(THREES, SWAP).missed, (1, "12", "21"))

    def test_squares(self):
        small = Hand("small", "01", (("a", 1, (("x", "y"), ("xy", "yx"))),))
        tree = ("case", 0, "0", (("case", 0, "1", (("slip", 0, "0", "1"),)),))
        self.same(Cases(small, 1).tree, tree)
        self.same(least_order(small), (3, ((0, 1), (2, 0), (1, 2)), (tree, Cases(small, 2).tree)))
        self.assertEqual(repr(Cases(small, 2).tree).count("case") + repr(Cases(small, 2).tree).count("twice")
                         + repr(Cases(small, 2).tree).count("slip"), 13)

    def test_the_house(self):
        house = read_house(LINES)
        self.same(write_house(house), LINES)
        post = house.way_named("post")
        series, hand = house.series_named("member"), house.hand_named("phone")
        self.assertTrue(CleanWay(post))
        self.assertTrue(Trust(post))
        self.same(judge_trust(post, 1, Trust(post).table), None)
        number = series.walk.least_paper()
        self.same(clean_story(post, number), (("arrived", number), 0, (number,) * 4, ()))
        # Without the desk the echo still finds what the hand does, so the desk is needless.
        self.same(needless_desks(post), (1,))
        bare = without_desk(post, 1)
        self.same([station[0] for station in bare], ["hand", "echo"])
        self.assertTrue(Trust(bare))
        self.same(Trust(bare, most=2).lie is None, lie_price(bare, most=2) is None)
        self.assertEqual(house, House("0123", [series], [hand], [post]))
        # And so do the numbers that a book issues of the series.
        book = Book((series,), ("north",))
        book.do(("issue", "member", 20), ("block", "north", "member", 2), ("use", "north", "member"))
        self.same([row[0] for row in book.issued("member")], [Roll(series)[rank] for rank in range(21)])
        for name, one, other, copy in clashes(book, hand):
            self.assertEqual((name, other), ("member", "member"))
            self.assertIn((1, one), issued_meant(book, "member", copy, hand))
            self.same(Finding(series, hand).missed[0], 1)


class TestAgreements(Case):
    def things(self, seed, many):
        """Some series, hands and prices."""
        dice = random.Random(seed)
        for _ in range(many):
            yield dice, little_series(dice), little_hand(dice, 3), dice.randrange(3)

    def test_what_is_judged_and_what_is_told(self):
        seen = {}
        for dice, series, hand, most in self.things(379, 60):
            way = some_way(dice, 3)
            other = little_series(dice)
            level = level_hand(dice, "01")
            rows = [
                (lambda: Alike(series.walk, other.walk), lambda t: judge_alike(series.walk, other.walk, t)),
                (lambda: Crossing(series, hand, other, most=most), lambda t: judge_crossing(series, hand, other, most, t)),
                (lambda: Finding(series, hand, most=most), lambda t: judge_finding(series, hand, most, t)),
                (lambda: Mending(series, hand, most=most), lambda t: judge_mending(series, hand, most, t)),
                (lambda: Trust(way, most=most), lambda t: judge_trust(way, most, t)),
                (lambda: Close(series, level, most=most, far=2), lambda t: judge_close(series, level, most, 2, t)),
            ]
            if not any(station[0] in ("clerk", "spell") for station in way):
                rows.append((lambda: Doubts(way, len(way), most=most), lambda t: judge_doubts(way, len(way), most, t)))
            for number, (make, judge) in enumerate(rows):
                try:
                    told = make()
                except TooMany:
                    continue
                if len(told.table) < 400:
                    # A table holds a bad entry exactly if what it promises does not hold.
                    wrong = judge(told.table)
                    self.assertEqual(bool(told), wrong is None)
                    if told.table:
                        self.assertIsNotNone(judge(told.table[1:] if told else told.table))
                    seen.setdefault(number, set()).add(bool(told))
        self.assertTrue(all(flags == {True, False} for flags in seen.values()), seen)

    def test_ranks_and_next_numbers(self):
        for _, series, _, _ in self.things(383, 40):
            ahead = None
            for rank, number in enumerate(numbers_upto(series, 3)):
                self.same((rank_of(series, number), nth_number(series, rank), Roll(series)[rank]), (rank, number, number))
                if ahead is not None:
                    self.same((next_number(series, ahead), last_number(series, number)), (number, ahead))
                ahead = number

    def test_ways_of_one_hand_and_what_a_series_finds(self):
        seen = set()
        for _, series, hand, most in self.things(389, 80):
            way = way_of(series, ("hand", hand), ("desk", series))
            try:
                found, trust = Finding(series, hand, most=most), Trust(way, most=most)
            except TooMany:
                continue
            self.assertIs(bool(found), bool(trust))
            if found.missed is not None:
                price, number, copy = found.missed
                self.same(trust.lie, (price, (number, copy, copy)))
                self.same(lie_price(way, most=most), price)
                # Put the desk in where it was not.
                bare = way_of(series, ("hand", hand))
                self.assertEqual(with_desks(bare, ((1, series, 1),), (0,)), way)
            seen.add(bool(found))
        self.assertEqual(seen, {True, False})

    def test_crossings_and_what_is_missed(self):
        for _, series, hand, most in self.things(397, 40):
            try:
                found, crossing = Finding(series, hand, most=most), Crossing(series, hand, series, most=most)
            except TooMany:
                continue
            # Each number is a copy of itself, for nothing.
            self.assertIs(bool(crossing), not series)
            if found.missed is not None:
                self.assertLessEqual(crossing.least[0], found.missed[0])

    def test_what_is_meant_and_what_is_missed(self):
        seen = set()
        for _, series, hand, most in self.things(401, 60):
            try:
                mending, found = Mending(series, hand, most=most), Finding(series, hand, most=most)
            except TooMany:
                continue
            if mending:
                self.assertTrue(found)
                for number in numbers_upto(series, 2):
                    for copy, price in copies_upto(hand, number, most).items():
                        self.same(meant(series, hand, copy, most=most), ((price, number),))
            elif found.missed is not None:
                price, number, copy = found.missed
                # The copy can mean both: itself, for nothing, and the number that was missed.
                self.assertLessEqual(key_of(mending.doubtful[0]), key_of(copy))
                try:
                    told = meant(series, hand, copy, most=most)
                except TooMany:
                    continue
                self.assertIn((price, number), told)
                self.assertIn((0, copy), told)
            seen.add((bool(mending), bool(found)))
        self.assertEqual(seen, {(True, True), (False, True), (False, False)})

    def test_lean_hands_do_the_same(self):
        for _, series, hand, most in self.things(409, 40):
            try:
                found, lean = Finding(series, hand, most=most), Finding(series, lean_hand(hand), most=most)
            except TooMany:
                continue
            self.same(found.missed, lean.missed)

    def test_lies_stories_and_suspects(self):
        for dice, series, _, most in self.things(419, 60):
            way = some_way(dice, 3)
            try:
                lie = Trust(way, most=most).lie
            except TooMany:
                continue
            if lie is None:
                continue
            price, papers = lie
            copyings = []
            for k, station in enumerate(way):
                if station[0] == "hand":
                    copyings.append(copying_of(station[1], papers[k], papers[k + 1]))
                elif station[0] == "echo":
                    copyings.append(copying_of(station[1], papers[k], papers[station[2]]))
            end, paid, told, slipped = follow(way, papers[0], tuple(copyings))
            self.same((end, told), (("arrived", papers[-1]), papers))
            self.assertLessEqual(paid, price)
            self.assertNotEqual(clean_story(way, papers[0])[0], end)
            rows = suspects(way, end, most=most)
            self.assertTrue(any(lot == slipped and least <= price for least, lot in rows))
            self.assertTrue(set(surely(way, end, most=most)) <= set(slipped))
            self.assertTrue(set(slipped) <= set(surely(way, end, most=most)) | set(perhaps(way, end, most=most)))

    def test_desks_lies_and_prices(self):
        for dice, series, hand, most in self.things(421, 40):
            way = way_of(series, ("hand", hand), ("hand", little_hand(dice, 3)))
            gaps = ((1, series, 2), (2, series, 3), (2, little_series(dice), 1))
            try:
                told = Desks(way, gaps, most=most)
                for lot, lie in told.shut:
                    self.same(lie_price(with_desks(way, gaps, lot), most=most), lie[0])
                if told:
                    self.same(lie_price(told.way, most=most), None)
                    self.same(needless_desks(told.way, most=most) if told.price else (), ())
            except TooMany:
                continue

    def test_squares_weights_and_what_is_found(self):
        seen = set()
        for dice, _, hand, _ in self.things(431, 60):
            hand = level_hand(dice, "01")
            dear = max([price for _, _, price in hand.pairs], default=1)
            single = min([price for _, _, price in hand.pairs], default=1) * 2 > dear
            cases, weights = Cases(hand, 3), Weights(hand, 5, 2)
            if cases:
                self.assertTrue(is_square("01", cases.square))
                self.assertIsNone(hiding_slip(hand, cases.square))
                if single:
                    self.assertTrue(Finding(free_series("s", "01", ("square", cases.square, (1,))), hand, most=dear))
            else:
                self.assertIsNone(judge_cases(hand, 3, cases.tree))
            if weights:
                if single:
                    self.assertTrue(Finding(free_series("s", "01", ("sum", 5, weights.weights, 2)), hand, most=dear))
            else:
                self.assertIsNone(judge_bars(hand, 5, 2, weights.bars))
            seen.add((bool(cases), bool(weights)))
        self.assertIn((True, True), seen)

    def test_rules_read_back(self):
        for dice, series, _, _ in self.things(433, 40):
            rules = tuple(little_series(dice).rule for _ in range(3))
            try:
                shown, settling = Signatures(series.walk, rules).shown, Settling(series.walk, rules)
            except TooMany:
                continue
            for one in range(3):
                for other in range(3):
                    alike = Alike(rule_walk("01", rules[one]), rule_walk("01", rules[other]), frame=series.walk)
                    self.assertIs(bool(alike), any(one in lot and other in lot for lot in settling.lots))
            for row, paper in shown:
                if len(paper) <= 60:
                    self.same(signature_of("01", rules, paper), row)
                    self.same([int(is_right("01", rule, paper)) for rule in rules], list(row))
            for k, rule in enumerate(rules):
                seen = tuple((paper, int(is_right("01", rule, paper))) for paper in settling.papers)
                self.assertIn(fitting("01", rules, seen), [lot for lot in settling.lots if k in lot])

    def test_clerks_and_check_signs(self):
        for _, series, _, _ in self.things(439, 40):
            complete = Completion(series)
            clean = CleanWay(way_of(series, ("clerk", series)))
            # A clerk stops no number but the empty one: its own last sign is a check sign.
            self.same(clean.stopped, ("", 0) if "" in series else None)
            if complete:
                self.assertTrue(Trust(way_of(series, ("clerk", series)), most=0))
                for number in numbers_upto(series, 3):
                    if number:
                        self.same(clean_story(way_of(series, ("clerk", series)), number)[0], ("arrived", number))

    def test_houses_their_lines_and_what_they_tell(self):
        dice = random.Random(443)
        for _ in range(40):
            series, hand = little_series(dice), little_hand(dice, 2)
            stations = [dice.choice([("hand", hand), ("desk", series), ("clerk", series), ("echo", hand, 0),
                                     ("spell", ("0", "11"), "", "1")]) for _ in range(3)]
            house = House("01", (series,), (hand,), (Way("post", series, stations),))
            again = read_house(write_house(house))
            self.assertEqual(again, house)
            self.same(write_house(again), write_house(house))
            try:
                told = Trust(house.ways[0])
            except TooMany:
                self.raises(TooMany, {"what": "entry"}, Trust, again.ways[0])
                continue
            self.same((Trust(again.ways[0]).table, Trust(again.ways[0]).lie), (told.table, told.lie))
            self.same(judge_trust(again.ways[0], 1, told.table), judge_trust(house.ways[0], 1, told.table))

    def test_deeds_their_lines_and_books(self):
        series = free_series("even", "01", ("sum", 2, (1,), 0))
        book = Book((series,), ("north",))
        book.do(("issue", "even", 3), ("block", "north", "even", 2), ("use", "north", "even"), ("void", "even", ""), ("day",),
                ("again", "even", ""), ("edition", "even", ("not", ("sum", 2, (1,), 0))), ("issue", "even", 1))
        lines = write_deeds(book.deeds)
        self.same(read_deeds(lines), book.deeds)
        many, other = tried(Book((series,), ("north",)), read_deeds(lines))
        self.same(many, 8)
        self.assertTrue(other == book)
        self.same(other.issued("even"), book.issued("even"))
        for many in range(9):
            self.same(tried(book.upto(many), book.deeds[many:])[1].issued("even"), book.issued("even"))

    def test_what_is_worth_asking(self):
        # What a paper can mean is found out by asking back; the plan costs at most the value.
        for dice, series, hand, most in self.things(449, 40):
            for paper in ("0", "01", "11"):
                try:
                    rows = meant(series, hand, paper, most=most)
                except TooMany:
                    continue
                papers = tuple(number for _, number in rows)[:6]
                if papers:
                    menu = ((("long",), 2), (("sign", 0), 1), (("last", 0), 1), (("sign", 1), 1))
                    told = Asking(papers, menu)
                    self.assertIsNone(judge_values(papers, menu, (), told.table))
                    if told:
                        for number in papers:
                            self.follow(told, number)

    def follow(self, told, number):
        plan = told.plan()
        answers = []
        while plan[0] == "ask":
            question = plan[1]
            line = number if question[0] == "sign" else number[::-1]
            answers.append(len(number) if question[0] == "long" else line[question[1]:question[1] + 1])
            plan = told.led(tuple(answers))
        self.same(plan, ("told", number))
