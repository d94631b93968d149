"""The interface: each name in its own file, with its arguments, and each method in its own class."""

import importlib
import inspect
import unittest

from helpers import example_hand, example_series

FUNCTIONS = {
    "papers": ("sign_value(signs, sign)", "paper_key(paper)", "in_order(papers)", "lag_of(first, second)",
               "lag_on(lag, first, second)"),
    "rules": ("check_rule(signs, rule)", "is_right(signs, rule, paper)", "rule_walk(signs, rule)"),
    "forms": ("check_form(signs, form)", "readings(signs, form, paper)", "form_walk(signs, form)"),
    "hands": ("pairs_of(signs, patterns)",),
    "ruletext": ("write_rule(rule)", "read_rule(text)"),
    "parttext": ("write_series(series)", "write_hand(hand)", "write_way(way)"),
    "housetext": ("write_house(house)", "read_house(lines)", "house_lines(house)"),
    "deedtext": ("write_deeds(deeds)", "read_deeds(lines)"),
    "alike": ("judge_alike(first, second, table, *, frame=None)",),
    "contexts": ("sign_classes(walk)",),
    "sums": ("least_sum(walk, *, modulus, many)",),
    "ranks": ("count_of(series, length)", "rank_of(series, paper)", "nth_number(series, rank)",
              "next_number(series, paper)", "last_number(series, paper)", "numbers(series)"),
    "lengths": ("length_flags(walk)",),
    "prices": ("least_price(hand, paper, copy)", "copying_of(hand, paper, copy)"),
    "copies": ("copies_of(hand, paper, *, most=1)",),
    "lean": ("dearer_pair(first, second)", "lean_pairs(hand)", "lean_hand(hand)", "alike_hands(first, second)"),
    "crossings": ("judge_crossing(sender, hand, taker, most, table)",),
    "finding": ("judge_finding(series, hand, most, table)",),
    "events": ("events(series, hand, length)", "missing_lengths(series, hand, *, most=1)"),
    "mending": ("meant(series, hand, paper, *, most=1)", "judge_mending(series, hand, most, table)"),
    "squares": ("is_square(signs, rows)", "hiding_slip(hand, rows)"),
    "cases": ("judge_cases(hand, order, tree)", "least_order(hand, *, most=3)"),
    "weights": ("judge_bars(hand, modulus, length, bars)",),
    "stories": ("follow(way, number, copyings)", "clean_story(way, number)"),
    "trust": ("judge_trust(way, most, table)", "lie_price(way, *, most=1)"),
    "sights": ("suspects(way, sight, *, most=1)", "surely(way, sight, *, most=1)", "perhaps(way, sight, *, most=1)"),
    "doubts": ("judge_doubts(way, point, most, table)",),
    "desks": ("with_desks(way, gaps, lot)", "without_desk(way, station)", "needless_desks(way, *, most=1)"),
    "asking": ("judge_values(papers, menu, heard, table)", "answers_of(question, paper, heard)"),
    "signatures": ("signature_of(signs, rules, paper)", "fitting(signs, rules, seen)"),
    "close": ("judge_close(series, hand, most, far, table)",),
    "holders": ("issued_meant(book, series, paper, hand, *, most=1)", "clashes(book, hand, *, most=1)"),
    "trials": ("tried(book, deeds)",),
}

CLASSES = {
    "walks.Walk": ("__init__(self, signs, rows, goals)", "standing(self, paper, start=0)", "right(self, paper)",
                   "least_paper(self, start=0)", "__contains__(self, x)", "__len__(self)",
                   "__getitem__(self, at)", "__iter__(self)", "__bool__(self)", "__eq__(self, other)",
                   "__and__(self, other)", "__or__(self, other)", "__sub__(self, other)", "__invert__(self)"),
    "series.Series": ("__init__(self, name, signs, form, rule)", "__contains__(self, x)",
                      "check_signs(self, body)", "__eq__(self, other)", "__bool__(self)"),
    "hands.Hand": ("__init__(self, name, signs, slips)", "__eq__(self, other)", "__add__(self, other)",
                   "__call__(self, copying)"),
    "ways.Way": ("__init__(self, name, series, stations)", "__len__(self)", "__iter__(self)", "__eq__(self, other)"),
    "house.House": ("__init__(self, signs, serieses, hands, ways)", "series_named(self, name)",
                    "hand_named(self, name)", "way_named(self, name)", "__eq__(self, other)"),
    "alike.Alike": ("__init__(self, first, second, *, frame=None)", "__bool__(self)", "__iter__(self)"),
    "contexts.Blind": ("__init__(self, walk, first, second)", "__bool__(self)"),
    "contexts.Seeing": ("__init__(self, walk, first, second)", "__bool__(self)"),
    "checks.Completion": ("__init__(self, series)", "__bool__(self)"),
    "clear.Clear": ("__init__(self, signs, form)", "__bool__(self)"),
    "ranks.Roll": ("__init__(self, series)", "__getitem__(self, at)", "__contains__(self, x)", "__iter__(self)"),
    "crossings.Crossing": ("__init__(self, sender, hand, taker, *, most=1)", "__bool__(self)"),
    "finding.Finding": ("__init__(self, series, hand, *, most=1)", "__bool__(self)", "__iter__(self)"),
    "mending.Mending": ("__init__(self, series, hand, *, most=1)", "__bool__(self)"),
    "cases.Cases": ("__init__(self, hand, order)", "__bool__(self)"),
    "weights.Weights": ("__init__(self, hand, modulus, length)", "__bool__(self)"),
    "trust.Trust": ("__init__(self, way, *, most=1)", "__bool__(self)", "__iter__(self)"),
    "trust.CleanWay": ("__init__(self, way)", "__bool__(self)"),
    "doubts.Doubts": ("__init__(self, way, point, *, most=1)", "__bool__(self)"),
    "desks.Desks": ("__init__(self, way, gaps, *, most=1)", "__bool__(self)"),
    "asking.Asking": ("__init__(self, papers, menu, *, heard=())", "__bool__(self)", "plan(self)", "led(self, answers)"),
    "signatures.Signatures": ("__init__(self, frame, rules)",),
    "settling.Settling": ("__init__(self, frame, rules)", "plan(self)", "led(self, flags)"),
    "close.Close": ("__init__(self, series, hand, *, most=1, far=1)", "__bool__(self)"),
    "books.Book": ("__init__(self, serieses, branches)", "do(self, *deeds)", "upto(self, many)", "copy(self)",
                   "trial(self)", "issued(self, series)", "aside(self, branch, series)", "state(self, series, paper)",
                   "readers(self, paper)", "edition(self, series, number)", "__len__(self)", "__iter__(self)",
                   "__eq__(self, other)"),
    "trials.Trial": ("__init__(self, book)", "__enter__(self)", "__exit__(self, kind, value, trace)"),
}


# The attributes that are set on each object when it is made.
ATTRIBUTES = {
    "Walk": "signs rows goals live", "Series": "name signs form rule frame walk", "Hand": "name signs slips pairs",
    "Way": "name series stations signs", "House": "signs serieses hands ways", "Alike": "table parting",
    "Blind": "context", "Seeing": "context", "Completion": "body", "Clear": "doubtful", "Crossing": "table least",
    "Finding": "table missed", "Mending": "table doubtful", "Cases": "square tree", "Weights": "weights bars",
    "Trust": "table lie", "CleanWay": "stopped", "Doubts": "table least", "Desks": "lot price shut way",
    "Asking": "value table", "Signatures": "table shown", "Settling": "lots papers value", "Close": "least table",
    "Book": "serieses branches deeds today",
}


def module(name):
    return importlib.import_module(f"handcarried.{name}")


def made(name):
    """An object of a class, as small as can be."""
    series, hand = example_series(), example_hand()
    way = module("ways").Way("post", series, ())
    walk = series.walk
    values = {
        "Walk": walk, "Series": series, "Hand": hand, "Way": way,
        "House": lambda: module("house").House("0123", (series,), (hand,), (way,)),
        "Alike": lambda: module("alike").Alike(walk, walk), "Blind": lambda: module("contexts").Blind(walk, "0", "0"),
        "Seeing": lambda: module("contexts").Seeing(walk, "0", "0"),
        "Completion": lambda: module("checks").Completion(series),
        "Clear": lambda: module("clear").Clear("0123", series.form),
        "Crossing": lambda: module("crossings").Crossing(series, hand, series, most=0),
        "Finding": lambda: module("finding").Finding(series, hand, most=0),
        "Mending": lambda: module("mending").Mending(series, hand, most=0),
        "Cases": lambda: module("cases").Cases(hand, 1),
        "Weights": lambda: module("weights").Weights(module("hands").Hand("none", "01", ()), 2, 1),
        "Trust": lambda: module("trust").Trust(way), "CleanWay": lambda: module("trust").CleanWay(way),
        "Doubts": lambda: module("doubts").Doubts(way, 0), "Desks": lambda: module("desks").Desks(way, ()),
        "Asking": lambda: module("asking").Asking(("0",), ((("long",), 1),)),
        "Signatures": lambda: module("signatures").Signatures(walk, (("any",),)),
        "Settling": lambda: module("settling").Settling(walk, (("any",),)),
        "Close": lambda: module("close").Close(series, module("hands").Hand("none", "0123", ())),
        "Book": lambda: module("books").Book((series,), ()),
    }
    thing = values[name]
    return thing() if inspect.isfunction(thing) else thing


class TestInterface(unittest.TestCase):
    def test_functions(self):
        for name, wanted in FUNCTIONS.items():
            for head in wanted:
                function = getattr(module(name), head.split("(")[0])
                self.assertEqual(function.__name__ + str(inspect.signature(function)), head)
                self.assertEqual(function.__module__, f"handcarried.{name}")

    def test_classes(self):
        for path, wanted in CLASSES.items():
            name, class_name = path.split(".")
            kind = getattr(module(name), class_name)
            self.assertEqual(kind.__module__, f"handcarried.{name}")
            for head in wanted:
                method = kind.__dict__[head.split("(")[0]]
                self.assertEqual(method.__name__ + str(inspect.signature(method)), head)

    def test_other_methods(self):
        walk = module("walks").Walk
        self.assertIsInstance(walk.__dict__["live"], property)
        self.assertIsInstance(walk.__dict__["everything"], classmethod)
        self.assertEqual(str(inspect.signature(walk.everything)), "(signs)")
        self.assertTrue(inspect.isgeneratorfunction(module("housetext").house_lines))
        self.assertTrue(inspect.isgeneratorfunction(module("ranks").numbers))
        self.assertIsInstance(module("books").Book.__dict__["today"], property)

    def test_attributes(self):
        for name, words in ATTRIBUTES.items():
            thing = made(name)
            for word in words.split():
                getattr(thing, word)


if __name__ == "__main__":
    unittest.main()
