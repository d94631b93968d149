"""The least sum that a walk is ([13])."""

from handcarried.errors import TooMany
from handcarried.ruleparts import LEAST_MODULUS
from handcarried.walks import goal_flags

MOST_RULES = 5000


def least_sum(walk, *, modulus, many):
    """The first rule, of all sums up to a modulus and a number of weights, that has the right papers of a walk."""
    require_few_rules(modulus, many)
    goals = goal_flags(walk)
    for size in range(LEAST_MODULUS, modulus + 1):
        for length in range(1, many + 1):
            for weights in weightings(size, length):
                # By a sum the empty paper is right just if the goal is 0.
                for goal in range(1 - goals[0], 1 if goals[0] else size):
                    if is_sum(walk, goals, size, weights, goal):
                        return "sum", size, weights, goal
    return None


def require_few_rules(modulus, many):
    """Raise TooMany if there are more rules of these moduli and numbers of weights than are gone through."""
    rules = 0
    for size in range(LEAST_MODULUS, modulus + 1):
        ways = size
        for _ in range(many):
            ways = ways * size
            rules += ways
    if rules > MOST_RULES:
        raise TooMany("rule")


def weightings(modulus, length):
    """All tuples of so many weights, ascending."""
    found = [()]
    for _ in range(length):
        found = [(*weights, weight) for weights in found for weight in range(modulus)]
    return found


def is_sum(walk, goals, modulus, weights, goal):
    """Whether a sum has just the right papers of a walk."""
    # A place among the weights and a rest tell all that the sum asks of what comes behind. In a least walk this is
    # one standing, so two papers with the same place and rest lead there to the same one.
    standings = {(0, 0): 0}
    found = [(0, 0)]
    done = 0
    while done < len(found):
        place, rest = found[done]
        at = standings[found[done]]
        if (rest == goal) != (goals[at] == 1):
            return False
        for value, to in enumerate(walk.rows[at]):
            behind = ((place + 1) % len(weights), (rest + weights[place] * value) % modulus)
            if behind not in standings:
                standings[behind] = to
                found.append(behind)
            if standings[behind] != to:
                return False
        done += 1
    return True
