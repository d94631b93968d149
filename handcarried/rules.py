"""Rules over signs: their form, their meaning and their walks ([5])."""

from handcarried.papers import require_paper, require_signs
from handcarried.ruleparts import checked_rule, inner_rules, own_values
from handcarried.rulewalks import back_walk, cut_walk, faces_walk, sum_walk
from handcarried.walks import Walk, least_walk, standing_in


def check_rule(signs, rule):
    """The rule as tuples throughout."""
    require_signs(signs)
    return checked_rule(signs, rule)


def is_right(signs, rule, paper):
    """Whether a paper is right by a rule."""
    told = check_rule(signs, rule)
    require_paper(signs, paper)
    return finds_right(signs, told, paper)


def rule_walk(signs, rule):
    """The walk with just the right papers of a rule."""
    return part_walk(signs, check_rule(signs, rule))


def finds_right(signs, part, paper):
    """Whether a part of a rule finds a paper right, by the meaning of its words."""
    word = part[0]
    values = own_values(part)
    inner = inner_rules(part)
    if word == "sum":
        return has_sum(signs, values, paper)
    if word == "square":
        return ends_in_goal(signs, values, paper)
    if word == "faces":
        return finds_right(signs, inner[0], faced(signs, values[0], paper))
    if word == "back":
        return finds_right(signs, inner[0], paper[::-1])
    if word == "cut":
        first, last = values
        rest = paper[first:len(paper) - last]
        return len(paper) >= first + last and finds_right(signs, inner[0], rest)
    flags = [finds_right(signs, rule, paper) for rule in inner]
    if word == "not":
        return not flags[0]
    # By "any", which has no inner rules, all of them find the paper right.
    return any(flags) if word == "either" else all(flags)


def has_sum(signs, values, paper):
    """Whether the sum over a paper leaves the rest that is the goal."""
    modulus, weights, goal = values
    total = sum([weights[at % len(weights)] * signs.index(sign) for at, sign in enumerate(paper)])
    return total % modulus == goal


def ends_in_goal(signs, values, paper):
    """Whether a paper that is walked by the rows of a square ends in a goal."""
    rows, goals = values
    return standing_in(signs, rows, paper, 0) in goals


def faced(signs, faces, paper):
    """The paper with each sign replaced by the character of its face."""
    return "".join([faces[at % len(faces)][signs.index(sign)] for at, sign in enumerate(paper)])


def part_walk(signs, part):
    """The walk of a part, made from inside to outside, left before right; TooMany("standing")."""
    inner = [part_walk(signs, rule) for rule in inner_rules(part)]
    word = part[0]
    values = own_values(part)
    if word == "sum":
        return sum_walk(signs, *values)
    if word == "square":
        return least_walk(signs, *values)
    if word == "faces":
        return faces_walk(signs, values[0], inner[0])
    if word == "back":
        return back_walk(signs, inner[0])
    if word == "cut":
        return cut_walk(signs, values[0], values[1], inner[0])
    if word == "both":
        return inner[0] & inner[1]
    if word == "either":
        return inner[0] | inner[1]
    if word == "not":
        return ~inner[0]
    return Walk.everything(signs)
