"""The lines of series, hands and ways, read ([40]).

What is read is plain tuples: the objects are made only when all lines have been read.
"""

from handcarried.errors import BadLine
from handcarried.forms import MOST_LEAST, MOST_RUN, MOST_WORD_SIGNS, MOST_WORDS
from handcarried.hands import LETTERS, MOST_PATTERN_SIGNS, MOST_PRICE
from handcarried.kinds import is_text
from handcarried.papers import ALL_SIGNS, LEAST_KINDS, MOST_KINDS
from handcarried.parttext import NO_MOST
from handcarried.ruletext import take_last_rule
from handcarried.ways import MOST_STATIONS, MOST_TEXT
from handcarried.words import EMPTY_PAPER, Words, ascending_in, integer_in, texts_in


class Lines:
    """Some lines, from the first to the last; BadLine for the first one that cannot stand there."""

    def __init__(self, lines):
        self.lines = tuple(lines)
        self.done = 0

    def begins(self, words):
        """Whether a line is left and begins with one of some words."""
        if self.done == len(self.lines) or not isinstance(self.lines[self.done], str):
            return False
        return self.lines[self.done].split(" ")[0] in words

    def take_line(self):
        """The words of the next line."""
        if self.done == len(self.lines):
            raise BadLine(self.done, 0)
        words = Words(self.done, self.lines[self.done])
        self.done += 1
        return words

    def finish(self):
        """Raise BadLine if a line is left."""
        if self.done < len(self.lines):
            raise BadLine(self.done, 0)


def read_series(lines):
    """A series: its name, form and rule."""
    words = lines.take_line()
    words.take_one_of(("series",))
    name = words.take_name()
    words.finish()
    fields = [read_field(lines.take_line())]
    while lines.begins(("run", "words")):
        fields.append(read_field(lines.take_line()))
    words = lines.take_line()
    words.take_one_of(("rule",))
    return name, tuple(fields), take_last_rule(words)


def read_field(words):
    """A field."""
    kind = words.take_one_of(("run", "words"))
    name = words.take_name()
    if kind == "run":
        allowed = words.taken(ascending_in(words.here(), 1, MOST_KINDS))
        least = words.take_integer(0, MOST_LEAST)
        most = words.taken(most_in(words.here()))
        field = (kind, name, allowed, least, None if most == NO_MOST else most)
    else:
        field = (kind, name, words.taken(texts_in(words.here(), 1, MOST_WORDS, 1, MOST_WORD_SIGNS)))
    words.finish()
    return field


def most_in(word):
    """What a word tells as the most signs of a run: an integer, or the word for any number."""
    return NO_MOST if word == NO_MOST else integer_in(word, 1, MOST_RUN)


def read_hand(lines):
    """A hand: its name and slips."""
    words = lines.take_line()
    words.take_one_of(("hand",))
    name = words.take_name()
    words.finish()
    slips = []
    while lines.begins(("slip",)):
        slips.append(read_slip(lines.take_line()))
    return name, tuple(slips)


def read_slip(words):
    """A slip."""
    words.take_one_of(("slip",))
    name = words.take_name()
    price = words.take_integer(1, MOST_PRICE)
    patterns = [read_pattern(words)]
    while words.more():
        patterns.append(read_pattern(words))
    return name, price, tuple(patterns)


def read_pattern(words):
    """A pattern, of two words."""
    before = words.taken(marks_in(words.here()))
    if words.here() == EMPTY_PAPER:
        return before, words.taken("")
    return before, words.taken(marks_in(words.here()))


def marks_in(word):
    """The characters of a pattern that a word is."""
    return word if is_text(word, 1, MOST_PATTERN_SIGNS, ALL_SIGNS + LETTERS) else None


def read_way(lines):
    """A way: its name, the name of its series, and its stations with names in the place of things."""
    words = lines.take_line()
    words.take_one_of(("way",))
    name = words.take_name()
    series = words.take_name()
    words.finish()
    stations = []
    while lines.begins(("hand", "desk", "clerk", "spell", "echo")):
        stations.append(read_station(lines.take_line()))
    return name, series, tuple(stations)


def read_station(words):
    """A station, with the name of its thing."""
    kind = words.take_one_of(("hand", "desk", "clerk", "spell", "echo"))
    if kind == "spell":
        texts = words.taken(texts_in(words.here(), LEAST_KINDS, MOST_KINDS, 1, MOST_TEXT))
        station = (kind, texts, words.take_paper(MOST_TEXT), words.take_paper(MOST_TEXT))
    elif kind == "echo":
        station = (kind, words.take_name(), words.take_integer(0, MOST_STATIONS))
    else:
        station = (kind, words.take_name())
    words.finish()
    return station
