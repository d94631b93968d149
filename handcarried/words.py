"""The words of a line: what each of them may be in itself, and how they are taken one by one ([38]).

A function that reads a word returns None if the word cannot stand where it stands.
"""

from handcarried.errors import BadLine
from handcarried.kinds import is_ascending, is_text, is_within
from handcarried.names import is_name
from handcarried.papers import ALL_SIGNS, are_signs

DIGITS = "0123456789"
EMPTY_PAPER = "-"
MOST_DIGITS = 9


def name_in(word):
    """The name that a word is."""
    return word if is_name(word) else None


def signs_in(word):
    """The signs of a house that a word is."""
    return word if are_signs(word) else None


def integer_in(word, least, most):
    """The integer that a word tells, from least to most."""
    if not is_text(word, 1, MOST_DIGITS, DIGITS) or (word.startswith("0") and word != "0"):
        return None
    return int(word) if is_within(int(word), least, most) else None


def integers_in(word, least_many, most_many, most):
    """The integers from 0 to most, least_many to most_many of them, that a word joins by commas."""
    integers = [integer_in(part, 0, most) for part in word.split(",")]
    if None in integers or not least_many <= len(integers) <= most_many:
        return None
    return tuple(integers)


def characters_in(word, least, most):
    """The characters, least to most of them, that a word is."""
    return word if is_text(word, least, most, ALL_SIGNS) else None


def ascending_in(word, least, most):
    """The ascending characters, least to most of them, that a word is."""
    return word if is_text(word, least, most, ALL_SIGNS) and is_ascending(word) else None


def paper_in(word, most):
    """The paper of at most so many signs that a word tells."""
    return "" if word == EMPTY_PAPER else characters_in(word, 1, most)


def texts_in(word, least_many, most_many, least, most):
    """The texts of least to most characters, least_many to most_many of them, that a word joins by commas."""
    texts = [characters_in(part, least, most) for part in word.split(",")]
    if None in texts or not least_many <= len(texts) <= most_many:
        return None
    return tuple(texts)


def paper_word(paper):
    """The word for a paper."""
    return EMPTY_PAPER if paper == "" else paper


def integers_word(integers):
    """The word for some integers."""
    return ",".join([str(number) for number in integers])


class Words:
    """The words of one line, from the first to the last; BadLine for the first one that cannot stand there."""

    def __init__(self, line, text):
        if not isinstance(text, str):
            raise BadLine(line, 0)
        self.line = line
        self.words = tuple(text.split(" "))
        self.at = 0

    def here(self):
        """The word that is to be taken next."""
        if self.at == len(self.words):
            raise BadLine(self.line, self.at)
        return self.words[self.at]

    def taken(self, worth):
        """Take the word as what was read of it; None is what cannot stand here."""
        if worth is None:
            raise BadLine(self.line, self.at)
        self.at += 1
        return worth

    def take_one_of(self, choices):
        """Take a word that is one of some choices."""
        return self.taken(self.here() if self.here() in choices else None)

    def take_name(self):
        """Take a name."""
        return self.taken(name_in(self.here()))

    def take_integer(self, least, most):
        """Take an integer."""
        return self.taken(integer_in(self.here(), least, most))

    def take_paper(self, most):
        """Take a paper."""
        return self.taken(paper_in(self.here(), most))

    def more(self):
        """Whether a word is left."""
        return self.at < len(self.words)

    def finish(self):
        """Raise BadLine if a word is left."""
        if self.more():
            raise BadLine(self.line, self.at)
