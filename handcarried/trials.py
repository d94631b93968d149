"""Trials of books: deeds that are done for a while ([37])."""

from handcarried.errors import CarryError


class Held:
    """What a book had when a block was entered, and what was held ahead of that."""

    def __init__(self, book, outer):
        self.deeds = book.deeds
        self.ledgers = book.ledgers
        self.outer = outer


class Trial:
    """A trial of a book: behind the block the book has just the deeds that it had when the block was entered."""

    def __init__(self, book):
        self.book = book
        self.held = None

    def __enter__(self):
        self.held = Held(self.book, self.held)
        return self.book

    def __exit__(self, kind, value, trace):
        book = self.book
        book.deeds = self.held.deeds
        book.ledgers = self.held.ledgers
        self.held = self.held.outer


def tried(book, deeds):
    """How many of some deeds can be done, up to the first that cannot, and a book as it is then."""
    done = 0
    with book.trial():
        for deed in deeds:
            try:
                book.do(deed)
            except CarryError:
                break
            done += 1
        then = book.copy()
    return done, then
