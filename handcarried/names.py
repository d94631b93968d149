"""Names of things ([2])."""

from handcarried.errors import BadName
from handcarried.kinds import is_text

LETTERS = "abcdefghijklmnopqrstuvwxyz"
MOST_LETTERS = 8

# The words of the lines of houses and books: a name that is one of them would be misread.
NO_NAMES = (
    "signs", "series", "run", "words", "rule", "any", "sum", "square", "faces", "back", "cut", "both", "either",
    "not", "hand", "slip", "way", "desk", "clerk", "spell", "echo", "issue", "block", "use", "void", "again", "day",
    "edition",
)


def is_name(thing):
    """Whether a thing is a name."""
    return is_text(thing, 1, MOST_LETTERS, LETTERS) and thing not in NO_NAMES


def require_name(name):
    """Raise BadName unless this is a name."""
    if not is_name(name):
        raise BadName(name)
