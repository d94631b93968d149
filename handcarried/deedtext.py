"""The lines of the deeds of a book, written and read ([41])."""

from handcarried.papers import MOST_SIGNS
from handcarried.ruletext import take_last_rule, write_rule
from handcarried.words import Words, paper_word

MOST_MANY = 20

# What follows the word of a deed; a rule goes on to the end of the line.
DEED_WORDS = {
    "issue": ("name", "many"),
    "block": ("name", "name", "many"),
    "use": ("name", "name"),
    "void": ("name", "paper"),
    "again": ("name", "paper"),
    "day": (),
    "edition": ("name", "rule"),
}


def write_deeds(deeds):
    """The lines of some deeds."""
    return tuple([deed_line(deed) for deed in deeds])


def deed_line(deed):
    """The line of a deed."""
    kinds = DEED_WORDS[deed[0]]
    return " ".join([deed[0], *[deed_word(kind, worth) for kind, worth in zip(kinds, deed[1:])]])


def deed_word(kind, worth):
    """The words for a part of a deed."""
    if kind == "many":
        return str(worth)
    if kind == "paper":
        return paper_word(worth)
    return write_rule(worth) if kind == "rule" else worth


def read_deeds(lines):
    """The deeds that lines tell; BadLine."""
    return tuple([read_deed(Words(number, text)) for number, text in enumerate(lines)])


def read_deed(words):
    """The deed of a line."""
    kind = words.take_one_of(list(DEED_WORDS))
    parts = [take_part(words, part) for part in DEED_WORDS[kind]]
    words.finish()
    return (kind, *parts)


def take_part(words, kind):
    """Take a part of a deed."""
    if kind == "name":
        return words.take_name()
    if kind == "many":
        return words.take_integer(1, MOST_MANY)
    if kind == "paper":
        return words.take_paper(MOST_SIGNS)
    return take_last_rule(words)
