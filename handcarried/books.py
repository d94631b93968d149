"""Books of issued numbers ([36], [37])."""

from handcarried.errors import NoNumber, Twice
from handcarried.kinds import as_tuples, first_double, is_within
from handcarried.ledgers import first_ledger, ledger_behind
from handcarried.trials import Trial


class Book:
    """A book: series, branches, and the deeds that were done."""

    def __init__(self, serieses, branches):
        for names in ([series.name for series in serieses], list(branches)):
            name = first_double(names)
            if name is not None:
                raise Twice(name)
        self.serieses = tuple(serieses)
        self.branches = tuple(branches)
        self.deeds = ()
        # What is known behind none of the deeds, behind the first one, and so on.
        self.ledgers = (first_ledger(self.serieses, self.branches),)

    @property
    def today(self):
        """The day."""
        return self.ledgers[-1].day

    def do(self, *deeds):
        """Do some deeds, all of them or none."""
        told = list(self.deeds)
        ledgers = list(self.ledgers)
        for deed in deeds:
            ledgers.append(ledger_behind(ledgers[-1], len(told), deed))
            told.append(as_tuples(deed))
        self.deeds = tuple(told)
        self.ledgers = tuple(ledgers)

    def upto(self, many):
        """The book as it was when it had so many deeds."""
        book = Book(self.serieses, self.branches)
        book.deeds = self.deeds[:many]
        book.ledgers = self.ledgers[:many + 1]
        return book

    def copy(self):
        """A book of its own with the same deeds."""
        return self.upto(len(self.deeds))

    def trial(self):
        """A trial of this book, for a block."""
        return Trial(self)

    def issued(self, series):
        """The issued numbers of a series, as tuples (paper, day, edition, branch, force)."""
        number = self.ledgers[-1].series_number(series)
        return tuple([row.told() for row in self.ledgers[-1].all_issued if row.series == number])

    def aside(self, branch, series):
        """The numbers of a series that are set aside for a branch."""
        one = self.ledgers[-1].branch_number(branch)
        other = self.ledgers[-1].series_number(series)
        return tuple([row.paper for row in self.ledgers[-1].reserves if row.branch == one and row.series == other])

    def state(self, series, paper):
        """Whether a paper is "none", "aside", "issued" or "void" in a series."""
        ledger = self.ledgers[-1]
        number = ledger.series_number(series)
        place = ledger.place_of(number, paper)
        if place is not None:
            return "issued" if ledger.all_issued[place].force == 1 else "void"
        return "aside" if any([row.series == number and row.paper == paper for row in ledger.reserves]) else "none"

    def readers(self, paper):
        """The pairs of the name of a series and an edition by which a paper is a number."""
        return tuple([(editions[number].name, number) for editions in self.ledgers[-1].editions
                      for number in range(len(editions)) if paper in editions[number]])

    def edition(self, series, number):
        """A series as it is in one of its editions."""
        editions = self.ledgers[-1].editions[self.ledgers[-1].series_number(series)]
        if not is_within(number, 0, len(editions) - 1):
            raise NoNumber(number)
        return editions[number]

    def __len__(self):
        return len(self.deeds)

    def __iter__(self):
        return iter(self.deeds)

    def __eq__(self, other):
        return (isinstance(other, Book) and self.serieses == other.serieses and self.branches == other.branches
                and self.deeds == other.deeds)
