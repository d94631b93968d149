"""Hands: slips, pairs, pieces and copyings ([8], [9])."""

from handcarried.errors import BadCopying, BadSlip, TooMany, Twice, Unlike
from handcarried.kinds import as_tuples, first_double, is_text, is_tuple, is_tuple_of, is_within
from handcarried.names import is_name, require_name
from handcarried.papers import paper_key, require_signs

LETTERS = "xyz"
MOST_SLIPS = 12
MOST_PRICE = 9
MOST_PATTERNS = 200
MOST_PATTERN_SIGNS = 3
MOST_PAIRS = 200


def pairs_of(signs, patterns):
    """The pairs (before, behind) that some patterns make, each once, in order."""
    require_signs(signs)
    found = {pair: True for before, behind in patterns for pair in pattern_pairs(signs, before, behind)}
    return tuple(sorted(found, key=pair_key))


def pair_key(pair):
    """What pairs are ordered by: before, then behind, in order of papers."""
    return paper_key(pair[0]), paper_key(pair[1])


def pattern_pairs(signs, before, behind):
    """The pairs that a pattern makes."""
    if before == behind:
        return []
    pairs = [(before, behind)]
    for letter in LETTERS:
        if letter in before or letter in behind:
            pairs = [(one.replace(letter, sign), other.replace(letter, sign)) for one, other in pairs
                     for sign in signs]
    return [(one, other) for one, other in pairs if one != other]


def is_pattern(signs, thing):
    """Whether a thing is a pattern."""
    if not is_tuple_of(thing, 2, 2):
        return False
    marks = signs + LETTERS
    return is_text(thing[0], 1, MOST_PATTERN_SIGNS, marks) and is_text(thing[1], 0, MOST_PATTERN_SIGNS, marks)


def is_slip(signs, thing):
    """Whether a thing is a slip."""
    if not is_tuple_of(thing, 3, 3) or not is_name(thing[0]) or not is_within(thing[1], 1, MOST_PRICE):
        return False
    return is_tuple_of(thing[2], 1, MOST_PATTERNS) and all([is_pattern(signs, pattern) for pattern in thing[2]])


def checked_slips(signs, slips):
    """The slips as tuples throughout; BadSlip, Twice."""
    if not is_tuple_of(slips, 0, MOST_SLIPS):
        raise BadSlip(-1)
    for number, slip in enumerate(slips):
        if not is_slip(signs, slip):
            raise BadSlip(number)
    name = first_double([slip[0] for slip in slips])
    if name is not None:
        raise Twice(name)
    return as_tuples(slips)


def least_prices(signs, slips):
    """The least price of each pair that some slips make; TooMany("pair")."""
    prices = {}
    for _, price, patterns in slips:
        for before, behind in patterns:
            for pair in pattern_pairs(signs, before, behind):
                prices[pair] = min(price, prices.get(pair, price))
            # Judged behind each pattern: all of them together may make very many pairs.
            if len(prices) > MOST_PAIRS:
                raise TooMany("pair")
    return prices


class Hand:
    """A hand: what it can slip in, and for which prices."""

    def __init__(self, name, signs, slips):
        require_name(name)
        require_signs(signs)
        self.name = name
        self.signs = signs
        self.slips = checked_slips(signs, slips)
        self._prices = least_prices(signs, self.slips)
        self.pairs = tuple([(*pair, self._prices[pair]) for pair in sorted(self._prices, key=pair_key)])

    def piece_price(self, piece):
        """The price of a piece; None for a thing that is no piece of this hand."""
        if not is_tuple_of(piece, 2, 2) or not isinstance(piece[0], str) or not isinstance(piece[1], str):
            return None
        if piece[0] == piece[1]:
            return 0 if is_text(piece[0], 1, 1, self.signs) else None
        return self._prices.get((piece[0], piece[1]))

    def __call__(self, copying):
        """The paper, the copy and the price of a copying."""
        if not is_tuple(copying):
            raise BadCopying(copying)
        prices = [self.piece_price(piece) for piece in copying]
        if None in prices:
            raise BadCopying(copying)
        paper = "".join([before for before, _ in copying])
        return paper, "".join([behind for _, behind in copying]), sum(prices)

    def __eq__(self, other):
        return (isinstance(other, Hand) and self.name == other.name and self.signs == other.signs
                and self.slips == other.slips)

    def __add__(self, other):
        if self.signs != other.signs:
            raise Unlike("signs")
        return Hand(self.name, self.signs, self.slips + other.slips)
