"""The walk of each kind of rule, made out of the walks of its inner rules ([5])."""

from handcarried.errors import TooMany
from handcarried.least import MOST_STANDINGS
from handcarried.walks import Walk, goal_flags, least_walk


def sum_walk(signs, modulus, weights, goal):
    """The walk of a sum: a standing for each number of a weight and each rest."""
    many = len(weights)
    rows = [[(at + 1) % many * modulus + (rest + weights[at] * value) % modulus for value in range(len(signs))]
            for at in range(many) for rest in range(modulus)]
    return least_walk(signs, rows, [at * modulus + goal for at in range(many)])


def faces_walk(signs, faces, inner):
    """The walk of faces: a standing for each number of a face and each standing within."""
    many = len(faces)
    values = [[signs.index(sign) for sign in face] for face in faces]
    rows = [[(at + 1) % many * len(inner) + row[value] for value in values[at]]
            for at in range(many) for row in inner.rows]
    return least_walk(signs, rows, [at * len(inner) + goal for at in range(many) for goal in inner.goals])


def back_walk(signs, inner):
    """The walk of the papers that are right when they are read from the last sign to the first.

    A standing is the lot of the inner standings from which what was read leads back to a goal. Each inner
    standing has a paper that leads to it, so different lots never are one standing of the least form.
    """
    found = [inner.goals]
    numbered = {inner.goals: 0}
    rows = []
    while len(rows) < len(found):
        ends = {at: True for at in found[len(rows)]}
        row = []
        for value in range(len(signs)):
            lot = tuple([at for at, to in enumerate(inner.rows) if to[value] in ends])
            if lot not in numbered:
                numbered[lot] = len(found)
                found.append(lot)
            row.append(numbered[lot])
        if len(found) > MOST_STANDINGS:
            raise TooMany("standing")
        rows.append(row)
    return Walk(signs, rows, [number for number, lot in enumerate(found) if 0 in lot])


def cut_walk(signs, first, last, inner):
    """The walk of a cut: the first signs one by one, then the inner standing with what it was lately.

    A standing behind the first signs has a flag for each of the last signs: whether the inner standing ahead
    of this sign was a goal. So it is known whether the paper without its last signs is right.
    """
    size = 1 << last
    goals = goal_flags(inner)
    rows = [[at + 1 for _ in signs] for at in range(first)]
    for at, row in enumerate(inner.rows):
        for flags in range(size):
            later = (2 * flags + goals[at]) % size
            rows.append([first + to * size + later for to in row])
    ends = [first + at * size + flags for at in range(len(inner)) for flags in range(size)
            if (2 * flags + goals[at]) >> last & 1]
    return least_walk(signs, rows, ends)
