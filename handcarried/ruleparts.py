"""The parts of a rule, and the form that each of them has in itself ([5])."""

from handcarried.errors import BadRule, TooMany
from handcarried.kinds import as_tuples, is_text, is_tuple_of, is_within
from handcarried.walks import are_goals, are_rows

LEAST_MODULUS = 2
MOST_MODULUS = 60
MOST_WEIGHTS = 8
MOST_ROWS = 60
MOST_FACES = 4
MOST_CUT = 3
MOST_PARTS = 40

# How many values of its own a part has behind its word, and how many inner rules behind them.
OWN_VALUES = {
    "sum": 3, "square": 2, "faces": 1, "back": 0, "cut": 2, "both": 0, "either": 0, "not": 0, "any": 0,
}
INNER_RULES = {
    "sum": 0, "square": 0, "faces": 1, "back": 1, "cut": 1, "both": 2, "either": 2, "not": 1, "any": 0,
}


def own_values(part):
    """What a part tells between its word and its inner rules."""
    return part[1:1 + OWN_VALUES[part[0]]]


def inner_rules(part):
    """The inner rules of a part, the left one first."""
    return part[1 + OWN_VALUES[part[0]]:]


def is_sum(values):
    """Whether values are modulus, weights and goal."""
    modulus, weights, goal = values
    if not is_within(modulus, LEAST_MODULUS, MOST_MODULUS) or not is_tuple_of(weights, 1, MOST_WEIGHTS):
        return False
    return all([is_within(number, 0, modulus - 1) for number in [*weights, goal]])


def is_square(signs, values):
    """Whether values are the rows and the goals of a square rule."""
    rows, goals = values
    return are_rows(signs, rows, MOST_ROWS) and are_goals(goals, len(rows)) and len(goals) > 0


def are_faces(signs, thing):
    """Whether a thing is a tuple of faces."""
    if not is_tuple_of(thing, 1, MOST_FACES):
        return False
    return all([is_text(face, len(signs), len(signs), signs) for face in thing])


def has_form(signs, part):
    """Whether a part has its form in itself; its inner rules only have to be there."""
    if not is_tuple_of(part, 1, 4) or not isinstance(part[0], str) or part[0] not in OWN_VALUES:
        return False
    word = part[0]
    if len(part) != 1 + OWN_VALUES[word] + INNER_RULES[word]:
        return False
    values = own_values(part)
    if word == "sum":
        return is_sum(values)
    if word == "square":
        return is_square(signs, values)
    if word == "faces":
        return are_faces(signs, values[0])
    return all([is_within(many, 0, MOST_CUT) for many in values])


def checked_rule(signs, rule):
    """The rule as tuples throughout; BadRule, TooMany("rule")."""
    told = checked_part(signs, rule)
    if count_parts(told) > MOST_PARTS:
        raise TooMany("rule")
    return told


def checked_part(signs, part):
    """A part, and all within it, as tuples; BadRule for the first part without its form."""
    if not has_form(signs, part):
        raise BadRule(part)
    inner = [checked_part(signs, rule) for rule in inner_rules(part)]
    return (part[0], *as_tuples(own_values(part)), *inner)


def count_parts(rule):
    """How many parts a rule has: itself and all rules within it."""
    return 1 + sum([count_parts(inner) for inner in inner_rules(rule)])
