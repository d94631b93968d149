"""The words of a rule, written and read ([39])."""

from handcarried.papers import MOST_KINDS, LEAST_KINDS
from handcarried.ruleparts import (
    INNER_RULES, LEAST_MODULUS, MOST_CUT, MOST_FACES, MOST_MODULUS, MOST_PARTS, MOST_ROWS, MOST_WEIGHTS, inner_rules,
    own_values,
)
from handcarried.words import Words, integers_in, integers_word, texts_in

MOST_NUMBER = 59


def write_rule(rule):
    """The words of a rule, one blank between them."""
    return " ".join(rule_words(rule))


def rule_words(rule):
    """The words of a rule, those of its inner rules behind its own."""
    words = [rule[0], *own_words(rule[0], own_values(rule))]
    for inner in inner_rules(rule):
        words.extend(rule_words(inner))
    return words


def own_words(word, values):
    """The words for the values of a part of a rule."""
    if word == "sum":
        modulus, weights, goal = values
        return [str(modulus), integers_word(weights), str(goal)]
    if word == "square":
        rows, goals = values
        return ["/".join([integers_word(row) for row in rows]), integers_word(goals)]
    if word == "faces":
        return [",".join(values[0])]
    return [str(many) for many in values]


def read_rule(text):
    """The rule whose words these are; BadLine(0, word)."""
    return take_last_rule(Words(0, text))


def take_last_rule(words):
    """Take a rule with which the line ends."""
    rule, _ = take_rule(words, 0)
    words.finish()
    return rule


def take_rule(words, begun):
    """Take a rule when so many have begun ahead of it: the pair of the rule and how many have begun then."""
    word = words.taken(rule_word_in(words.here(), begun))
    values = taken_values(words, word)
    begun += 1
    inner = []
    for _ in range(INNER_RULES[word]):
        rule, begun = take_rule(words, begun)
        inner.append(rule)
    return (word, *values, *inner), begun


def rule_word_in(word, begun):
    """The word with which a rule begins, None for the rule that is one too many."""
    return word if word in INNER_RULES and begun < MOST_PARTS else None


def taken_values(words, word):
    """Take the values of a part of a rule."""
    if word == "sum":
        return [words.take_integer(LEAST_MODULUS, MOST_MODULUS),
                words.taken(integers_in(words.here(), 1, MOST_WEIGHTS, MOST_NUMBER)),
                words.take_integer(0, MOST_NUMBER)]
    if word == "square":
        return [words.taken(rows_in(words.here())),
                words.taken(integers_in(words.here(), 1, MOST_ROWS, MOST_NUMBER))]
    if word == "faces":
        return [words.taken(texts_in(words.here(), 1, MOST_FACES, LEAST_KINDS, MOST_KINDS))]
    if word == "cut":
        return [words.take_integer(0, MOST_CUT), words.take_integer(0, MOST_CUT)]
    return []


def rows_in(word):
    """The rows that a word tells, None if it tells none."""
    rows = [integers_in(part, LEAST_KINDS, MOST_KINDS, MOST_NUMBER) for part in word.split("/")]
    return None if None in rows or len(rows) > MOST_ROWS else tuple(rows)
