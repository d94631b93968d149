"""Promise [41]: the lines of deeds."""

from handcarried.deedtext import read_deeds, write_deeds
from handcarried.errors import BadLine
from helpers import Case
from test_rules import listed

DEEDS = (
    (("issue", "member", 1), "issue member 1"),
    (("issue", "a", 20), "issue a 20"),
    (("block", "north", "member", 5), "block north member 5"),
    (("use", "north", "member"), "use north member"),
    (("void", "member", ""), "void member -"),
    (("void", "member", "0" * 60), "void member " + "0" * 60),
    (("again", "member", "ABCXYZ789"), "again member ABCXYZ789"),
    (("day",), "day"),
    (("edition", "member", ("any",)), "edition member any"),
    (("edition", "member", ("both", ("sum", 4, (1, 3), 0), ("not", ("square", ((1, 0), (1, 1)), (1,))))),
     "edition member both sum 4 1,3 0 not square 1,0/1,1 1"),
)


class TestDeeds(Case):
    def bad(self, line, word):
        self.raises(BadLine, {"line": 0, "word": word}, read_deeds, (line,))
        self.raises(BadLine, {"line": 2, "word": word}, read_deeds, ["day", "issue a 1", line, "bad"])

    def test_written_and_read(self):
        for deed, line in DEEDS:
            self.same(write_deeds((deed,)), (line,))
            self.same(write_deeds(listed((deed,))), (line,))
            self.same(read_deeds([line]), (deed,))
        deeds, lines = zip(*DEEDS)
        self.same(write_deeds(deeds), lines)
        self.same(read_deeds(lines), deeds)
        self.same(write_deeds(()), ())
        self.same(read_deeds(()), ())

    def test_many_deeds(self):
        self.same(read_deeds(("day",) * 100), (("day",),) * 100)

    def test_what_the_book_judges(self):
        self.same(read_deeds(("edition a sum 2 59 59", "void a 5", "use a a")),
                  (("edition", "a", ("sum", 2, (59,), 59)), ("void", "a", "5"), ("use", "a", "a")))

    def test_the_bounds_of_many(self):
        for word in ("0", "21", "01", "+1", "-1", "-", "x", "", "100", "1.0", "A"):
            self.bad(f"issue member {word}", 2)
            self.bad(f"block north member {word}", 3)

    def test_papers(self):
        for word in ("0" * 61, "", "--", "a", "0a", "0,1", "0/1", "x", "-0"):
            self.bad(f"void member {word}", 2)
            self.bad(f"again member {word}", 2)

    def test_names(self):
        for word in ("", "Member", "issue", "day", "any", "abcdefghi", "a1", "-", "5"):
            for kind, more in (("issue", " 1"), ("block", " a 1"), ("use", " a"), ("void", " 0"), ("again", " 0"),
                               ("edition", " any")):
                self.bad(f"{kind} {word}{more}", 1)
            self.bad(f"block north {word} 1", 2)
            self.bad(f"use north {word}", 2)

    def test_rules(self):
        for line, word in (("edition a", 2), ("edition a no", 2), ("edition a any any", 3), ("edition a sum 1 0 0", 3),
                           ("edition a both any", 4), ("edition a " + "not " * 40 + "any", 42), ("edition a rule any", 2)):
            self.bad(line, word)
        self.assertEqual(len(read_deeds(("edition a " + "not " * 39 + "any",))), 1)

    def test_spoilt_lines(self):
        for _, line in DEEDS:
            words = line.split(" ")
            self.bad(" " + line, 0)
            self.bad(line + " ", len(words))
            self.bad(line + " x", len(words))
            self.bad(words[0].upper(), 0)
            for many in range(1, len(words)):
                self.bad(" ".join(words[:many]), many)
                self.bad(" ".join([*words[:many], "", *words[many:]]), many)

    def test_lines_that_are_no_deeds(self):
        for line in ("", " ", "series a", "deed", "days", "issues a 1", "-", "day,", None, 5, True, ("day",), ["day"],
                     b"day", ()):
            self.bad(line, 0)

    def test_what_is_passed_stays(self):
        deeds = [["issue", "a", 1], ["edition", "a", ["not", ["any"]]]]
        write_deeds(deeds)
        self.assertEqual(deeds, [["issue", "a", 1], ["edition", "a", ["not", ["any"]]]])
