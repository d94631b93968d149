"""Plain and slow answers, against which the tests hold those of the program."""

from itertools import product


def papers_upto(signs, most):
    """All papers of at most so many signs, in order."""
    return ["".join(paper) for many in range(most + 1) for paper in product(signs, repeat=many)]


def right_by(signs, rule, paper):
    """What the document says that a rule means."""
    word = rule[0]
    if word == "any":
        return True
    if word == "not":
        return not right_by(signs, rule[1], paper)
    if word == "both":
        return right_by(signs, rule[1], paper) and right_by(signs, rule[2], paper)
    if word == "either":
        return right_by(signs, rule[1], paper) or right_by(signs, rule[2], paper)
    if word == "back":
        return right_by(signs, rule[1], "".join(reversed(paper)))
    if word == "cut":
        first, last, inner = rule[1:]
        if len(paper) < first + last:
            return False
        rest = list(paper)
        del rest[:first]
        for _ in range(last):
            rest.pop()
        return right_by(signs, inner, "".join(rest))
    if word == "faces":
        out = ""
        for place, sign in enumerate(paper):
            out += rule[1][place % len(rule[1])][signs.index(sign)]
        return right_by(signs, rule[2], out)
    if word == "sum":
        total = 0
        for place, sign in enumerate(paper):
            total += rule[2][place % len(rule[2])] * signs.index(sign)
        return total % rule[1] == rule[3]
    at = 0
    for sign in paper:
        at = rule[1][at][signs.index(sign)]
    return at in rule[2]


def readings_of(form, paper):
    """All readings of a paper, by trying all lengths of all parts."""
    if not form:
        return [()] if paper == "" else []
    field, rest = form[0], form[1:]
    out = []
    for many in range(len(paper) + 1):
        part = paper[:many]
        if lets_by(field, part):
            out += [(part, *more) for more in readings_of(rest, paper[many:])]
    return out


def lets_by(field, part):
    if field[0] == "words":
        return part in field[2]
    _, _, allowed, least, most = field
    return all(sign in allowed for sign in part) and least <= len(part) and (most is None or len(part) <= most)


def least_of(kinds, rows, goals):
    """The least form of a walk, by looking at all pairs of standings again and again."""
    found = [0]
    for at in found:
        for to in rows[at]:
            if to not in found:
                found.append(to)
    apart = {(a, b) for a in found for b in found if (a in goals) != (b in goals)}
    while True:
        more = {(a, b) for a in found for b in found if (a, b) not in apart
                and any((rows[a][k], rows[b][k]) in apart for k in range(kinds))}
        if not more:
            break
        apart |= more
    first = {a: min((b for b in found if (a, b) not in apart), key=found.index) for a in found}
    left = [a for a in found if first[a] == a]
    number = {a: left.index(first[a]) for a in found}
    # Numbered anew, as they are found in the rows that are left.
    table = [[number[rows[a][k]] for k in range(kinds)] for a in left]
    order = [0]
    for at in order:
        for to in table[at]:
            if to not in order:
                order.append(to)
    place = {at: order.index(at) for at in order}
    return (tuple(tuple(place[to] for to in table[at]) for at in order),
            tuple(sorted(place[at] for at in order if left[at] in goals)))


def pairs_by(signs, pattern):
    """The pairs of a pattern, by trying all signs for all letters."""
    before, behind = pattern
    out = set()
    for x, y, z in product(signs, repeat=3):
        told = {"x": x, "y": y, "z": z}
        one = "".join(told.get(mark, mark) for mark in before)
        other = "".join(told.get(mark, mark) for mark in behind)
        if one != other:
            out.add((one, other))
    return out


def numbers_upto(series, most):
    """All numbers of a series of at most so many signs, in order."""
    return [paper for paper in papers_upto(series.signs, most) if right_by(series.signs, series.rule, paper)
            and readings_of(series.form, paper)]


def pieces_by(hand):
    """The pieces of a hand with their prices, by its slips."""
    prices = {(sign, sign): 0 for sign in hand.signs}
    for _, price, patterns in hand.slips:
        for pattern in patterns:
            for pair in pairs_by(hand.signs, pattern):
                prices[pair] = min(price, prices.get(pair, price))
    return prices


def copyings_upto(hand, paper, most):
    """All copyings of a paper up to a price, as pairs of the copying and its price."""
    pieces = pieces_by(hand)

    def gone_on(rest, left):
        if rest == "":
            yield (), 0
        for (before, behind), price in pieces.items():
            if rest.startswith(before) and price <= left:
                for copying, more in gone_on(rest[len(before):], left - price):
                    yield ((before, behind), *copying), price + more

    return list(gone_on(paper, most))


def copies_upto(hand, paper, most):
    """The least price of each copy of a paper up to a price."""
    out = {}
    for copying, price in copyings_upto(hand, paper, most):
        copy = "".join(behind for _, behind in copying)
        out[copy] = min(price, out.get(copy, price))
    return out


def key_of(paper):
    """What papers are put in order by."""
    return (len(paper), paper)


def led(walk, at, paper):
    """The standing behind a paper from another one."""
    for sign in paper:
        at = walk.rows[at][walk.signs.index(sign)]
    return at


def is_number(thing, least, most):
    return thing.__class__ is int and least <= thing <= most


def is_sequence(thing, many):
    return thing.__class__ in (tuple, list) and len(thing) == many


class SlowCrossing:
    """The table of a crossing, word by word as the document tells it."""

    beginning = (0, 0, 0)

    def __init__(self, sender, hand, taker, most):
        self.sender, self.taker, self.most = sender.walk, taker.walk, most
        self.pieces = pieces_by(hand)

    def form(self, thing):
        return (is_sequence(thing, 3) and is_number(thing[0], 0, len(self.sender) - 1)
                and is_number(thing[1], 0, len(self.taker) - 1) and is_number(thing[2], 0, 10 ** 40))

    def left_out(self, entry):
        at, to, spent = entry[:3]
        return self.sender.least_paper(at) is None or self.taker.least_paper(to) is None or spent > self.most

    def bad(self, entry):
        return entry[0] in self.sender.goals and entry[1] in self.taker.goals

    def steps(self, entry):
        at, to, spent = entry
        return [(led(self.sender, at, before), led(self.taker, to, behind), spent + price)
                for (before, behind), price in self.pieces.items()]


def slow_lag(lag, first, second):
    """What a lag goes on to: the two papers with what was left of them put ahead."""
    if lag == "#":
        return lag
    one = (lag[1:] if lag[0] == "+" else "") + first
    other = (lag[1:] if lag[0] == "-" else "") + second
    while one and other and one[0] == other[0]:
        one, other = one[1:], other[1:]
    if one and other:
        return "#"
    return "+" + one if one else "-" + other if other else "="


def is_slow_lag(signs, thing):
    return thing.__class__ is str and (thing in ("=", "#") or (
        len(thing) > 1 and thing[0] in "+-" and all(sign in signs for sign in thing[1:])))


class SlowFinding(SlowCrossing):
    """The table of a series and a hand, word by word."""

    beginning = (0, 0, 0, "=")

    def __init__(self, series, hand, most):
        super().__init__(series, hand, series, most)

    def form(self, thing):
        return is_sequence(thing, 4) and super().form(thing[:3]) and is_slow_lag(self.sender.signs, thing[3])

    def bad(self, entry):
        return super().bad(entry) and entry[3] != "="

    def steps(self, entry):
        at, to, spent, lag = entry
        return [(led(self.sender, at, before), led(self.sender, to, behind), spent + price,
                 slow_lag(lag, before, behind)) for (before, behind), price in self.pieces.items()]


class SlowMending:
    """The table of two copyings of one paper, word by word."""

    beginning = (0, 0, 0, 0, "=", "=")

    def __init__(self, series, hand, most):
        self.walk, self.most = series.walk, most
        self.pieces = pieces_by(hand)

    def form(self, thing):
        return (is_sequence(thing, 6) and all(is_number(at, 0, len(self.walk) - 1) for at in thing[:2])
                and all(is_number(price, 0, 10 ** 40) for price in thing[2:4])
                and all(is_slow_lag(self.walk.signs, lag) for lag in thing[4:]))

    def left_out(self, entry):
        one, other, spent, paid, over, _ = entry
        return (self.walk.least_paper(one) is None or self.walk.least_paper(other) is None
                or max(spent, paid) > self.most or over == "#")

    def bad(self, entry):
        one, other, _, _, over, lag = entry
        return one in self.walk.goals and other in self.walk.goals and over == "=" and lag != "="

    def steps(self, entry):
        one, other, spent, paid, over, lag = entry
        out = []
        for (before, behind), price in self.pieces.items():
            if over[0] in "=-":
                out.append((led(self.walk, one, before), other, spent + price, paid, slow_lag(over, behind, ""),
                            slow_lag(lag, before, "")))
            if over[0] in "=+":
                out.append((one, led(self.walk, other, before), spent, paid + price, slow_lag(over, "", behind),
                            slow_lag(lag, "", before)))
        return out


def slow_table(point, most=3000):
    """All entries that are reached, ascending; None if there are more than so many."""
    found = [] if point.left_out(point.beginning) else [point.beginning]
    seen = set(found)
    for entry in found:
        for behind in point.steps(entry):
            if behind not in seen and not point.left_out(behind):
                seen.add(behind)
                found.append(behind)
        if len(found) > most:
            return None
    return tuple(sorted(found))


def tupled(thing):
    """The thing with tuples in the place of lists."""
    return tuple(tupled(part) for part in thing) if thing.__class__ in (tuple, list) else thing


def slow_judge(point, table):
    """What the document says is wrong with a table."""
    if table.__class__ not in (tuple, list):
        return -1
    known = {tupled(thing) for thing in table if point.form(thing)}
    if not point.left_out(point.beginning) and point.beginning not in known:
        return -1
    for number, thing in enumerate(table):
        if not point.form(thing):
            return number
        entry = tupled(thing)
        if point.left_out(entry) or point.bad(entry) or any(
                behind not in known and not point.left_out(behind) for behind in point.steps(entry)):
            return number
    return None
