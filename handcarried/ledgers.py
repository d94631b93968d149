"""What a book knows behind its deeds, and what each deed makes of it ([36])."""

from handcarried.deedtext import DEED_WORDS, MOST_MANY
from handcarried.errors import BadDeed, NoBlock, NoNumber, NotInForce, NotVoid, TooMany, Unknown
from handcarried.kinds import is_text, is_tuple_of, is_within
from handcarried.names import is_name
from handcarried.papers import ALL_SIGNS, MOST_SIGNS, paper_key
from handcarried.ranks import numbers_behind
from handcarried.series import Series

MOST_DEEDS = 40


class Issued:
    """A number that was issued."""

    def __init__(self, series, paper, day, edition_number, branch, force):
        self.series = series
        self.paper = paper
        self.day = day
        self.edition_number = edition_number
        self.branch = branch
        self.force = force

    def told(self):
        """What a book tells of it."""
        return self.paper, self.day, self.edition_number, self.branch, self.force

    def turned(self, force):
        """The same number, in force or taken back."""
        return Issued(self.series, self.paper, self.day, self.edition_number, self.branch, force)


class Reserve:
    """A number that is set aside for a branch."""

    def __init__(self, branch, series, paper, edition_number):
        self.branch = branch
        self.series = series
        self.paper = paper
        self.edition_number = edition_number


class Ledger:
    """What is known behind some deeds; it never changes. Series and branches are told by their numbers.

    Editions has for each series its editions; issued are the numbers in the order in which they were issued,
    reserves those that are set aside, in the order in which they were.
    """

    def __init__(self, branches, day, editions, issued, reserves):
        self.branches = branches
        self.day = day
        self.editions = editions
        self.all_issued = issued
        self.reserves = reserves

    def series_number(self, name):
        """The number of the series with a name; Unknown."""
        return number_of([editions[0].name for editions in self.editions], name)

    def branch_number(self, name):
        """The number of the branch with a name; Unknown."""
        return number_of(self.branches, name)

    def place_of(self, series, paper):
        """The place of a paper of a series among the issued numbers; None if it was not issued."""
        for place, row in enumerate(self.all_issued):
            if row.series == series and row.paper == paper:
                return place
        return None

    def next_papers(self, series, many):
        """The next numbers of a series; NoNumber if there are fewer than so many."""
        known = [row.paper for row in [*self.all_issued, *self.reserves] if row.series == series]
        latest = max(known, key=paper_key) if known else None
        papers = numbers_behind(self.editions[series][-1], latest, many)
        if len(papers) < many:
            raise NoNumber(self.editions[series][0].name)
        return papers

    def with_issued(self, issued):
        """The same with other issued numbers."""
        return Ledger(self.branches, self.day, self.editions, issued, self.reserves)


def first_ledger(serieses, branches):
    """What is known ahead of all deeds."""
    return Ledger(branches, 0, [[series] for series in serieses], [], [])


def number_of(names, name):
    """The number of a name among some names; Unknown."""
    for number, other in enumerate(names):
        if other == name:
            return number
    raise Unknown(name)


def is_deed(thing):
    """Whether a thing has the form of a deed; a rule is not looked at."""
    if not is_tuple_of(thing, 1, 4) or not isinstance(thing[0], str) or thing[0] not in DEED_WORDS:
        return False
    kinds = DEED_WORDS[thing[0]]
    return len(thing) == 1 + len(kinds) and all([is_deed_part(kind, part) for kind, part in zip(kinds, thing[1:])])


def is_deed_part(kind, thing):
    """Whether a thing is what a deed tells in this place."""
    if kind == "name":
        return is_name(thing)
    if kind == "many":
        return is_within(thing, 1, MOST_MANY)
    return kind == "rule" or is_text(thing, 0, MOST_SIGNS, ALL_SIGNS)


def ledger_behind(ledger, done, deed):
    """What is known behind one more deed, so many having been done; the errors of a deed."""
    if not is_deed(deed):
        raise BadDeed(done)
    if done >= MOST_DEEDS:
        raise TooMany("deed")
    doing = DOINGS[deed[0]]
    parts = deed[1:]
    return doing(ledger, *parts)


def issue(ledger, name, many):
    """The next numbers are issued by the head office."""
    series = ledger.series_number(name)
    number = len(ledger.editions[series]) - 1
    rows = [Issued(series, paper, ledger.day, number, "", 1) for paper in ledger.next_papers(series, many)]
    return ledger.with_issued([*ledger.all_issued, *rows])


def block(ledger, branch_name, name, many):
    """The next numbers are set aside for a branch."""
    branch = ledger.branch_number(branch_name)
    series = ledger.series_number(name)
    number = len(ledger.editions[series]) - 1
    rows = [Reserve(branch, series, paper, number) for paper in ledger.next_papers(series, many)]
    return Ledger(ledger.branches, ledger.day, ledger.editions, ledger.all_issued, [*ledger.reserves, *rows])


def use(ledger, branch_name, name):
    """A branch issues the first of the numbers that are set aside for it."""
    branch = ledger.branch_number(branch_name)
    series = ledger.series_number(name)
    for place, row in enumerate(ledger.reserves):
        if row.branch == branch and row.series == series:
            issued = Issued(series, row.paper, ledger.day, row.edition_number, branch_name, 1)
            left = [*ledger.reserves[:place], *ledger.reserves[place + 1:]]
            return Ledger(ledger.branches, ledger.day, ledger.editions, [*ledger.all_issued, issued], left)
    raise NoBlock(branch_name)


def void(ledger, name, paper):
    """A number that is in force is taken back."""
    place = ledger.place_of(ledger.series_number(name), paper)
    if place is None or ledger.all_issued[place].force == 0:
        raise NotInForce(paper)
    return turned_ledger(ledger, place, 0)


def again(ledger, name, paper):
    """A number that was taken back is in force again."""
    place = ledger.place_of(ledger.series_number(name), paper)
    if place is None or ledger.all_issued[place].force == 1:
        raise NotVoid(paper)
    return turned_ledger(ledger, place, 1)


def turned_ledger(ledger, place, force):
    """What is known when an issued number has been turned."""
    row = ledger.all_issued[place].turned(force)
    return ledger.with_issued([*ledger.all_issued[:place], row, *ledger.all_issued[place + 1:]])


def next_day(ledger):
    """The next day begins."""
    return Ledger(ledger.branches, ledger.day + 1, ledger.editions, ledger.all_issued, ledger.reserves)


def new_edition(ledger, name, rule):
    """From now on a series has another rule."""
    number = ledger.series_number(name)
    series = ledger.editions[number][0]
    added = [*ledger.editions[number], Series(series.name, series.signs, series.form, rule)]
    editions = [*ledger.editions[:number], added, *ledger.editions[number + 1:]]
    return Ledger(ledger.branches, ledger.day, editions, ledger.all_issued, ledger.reserves)


DOINGS = {
    "issue": issue, "block": block, "use": use, "void": void, "again": again, "day": next_day, "edition": new_edition,
}
