"""Plain and slow answers, against which the tests hold those of the program."""

from itertools import product


def papers_upto(signs, most):
    """All papers of at most so many signs, in order."""
    return ["".join(paper) for many in range(most + 1) for paper in product(signs, repeat=many)]


def right_by(signs, rule, paper):
    """What the document says that a rule means."""
    word = rule[0]
    if word == "any":
        return True
    if word == "not":
        return not right_by(signs, rule[1], paper)
    if word == "both":
        return right_by(signs, rule[1], paper) and right_by(signs, rule[2], paper)
    if word == "either":
        return right_by(signs, rule[1], paper) or right_by(signs, rule[2], paper)
    if word == "back":
        return right_by(signs, rule[1], "".join(reversed(paper)))
    if word == "cut":
        first, last, inner = rule[1:]
        if len(paper) < first + last:
            return False
        rest = list(paper)
        del rest[:first]
        for _ in range(last):
            rest.pop()
        return right_by(signs, inner, "".join(rest))
    if word == "faces":
        out = ""
        for place, sign in enumerate(paper):
            out += rule[1][place % len(rule[1])][signs.index(sign)]
        return right_by(signs, rule[2], out)
    if word == "sum":
        total = 0
        for place, sign in enumerate(paper):
            total += rule[2][place % len(rule[2])] * signs.index(sign)
        return total % rule[1] == rule[3]
    at = 0
    for sign in paper:
        at = rule[1][at][signs.index(sign)]
    return at in rule[2]


def readings_of(form, paper):
    """All readings of a paper, by trying all lengths of all parts."""
    if not form:
        return [()] if paper == "" else []
    field, rest = form[0], form[1:]
    out = []
    for many in range(len(paper) + 1):
        part = paper[:many]
        if lets_by(field, part):
            out += [(part, *more) for more in readings_of(rest, paper[many:])]
    return out


def lets_by(field, part):
    if field[0] == "words":
        return part in field[2]
    _, _, allowed, least, most = field
    return all(sign in allowed for sign in part) and least <= len(part) and (most is None or len(part) <= most)


def least_of(kinds, rows, goals):
    """The least form of a walk, by looking at all pairs of standings again and again."""
    found = [0]
    for at in found:
        for to in rows[at]:
            if to not in found:
                found.append(to)
    apart = {(a, b) for a in found for b in found if (a in goals) != (b in goals)}
    while True:
        more = {(a, b) for a in found for b in found if (a, b) not in apart
                and any((rows[a][k], rows[b][k]) in apart for k in range(kinds))}
        if not more:
            break
        apart |= more
    first = {a: min((b for b in found if (a, b) not in apart), key=found.index) for a in found}
    left = [a for a in found if first[a] == a]
    number = {a: left.index(first[a]) for a in found}
    # Numbered anew, as they are found in the rows that are left.
    table = [[number[rows[a][k]] for k in range(kinds)] for a in left]
    order = [0]
    for at in order:
        for to in table[at]:
            if to not in order:
                order.append(to)
    place = {at: order.index(at) for at in order}
    return (tuple(tuple(place[to] for to in table[at]) for at in order),
            tuple(sorted(place[at] for at in order if left[at] in goals)))


def pairs_by(signs, pattern):
    """The pairs of a pattern, by trying all signs for all letters."""
    before, behind = pattern
    out = set()
    for x, y, z in product(signs, repeat=3):
        told = {"x": x, "y": y, "z": z}
        one = "".join(told.get(mark, mark) for mark in before)
        other = "".join(told.get(mark, mark) for mark in behind)
        if one != other:
            out.add((one, other))
    return out
