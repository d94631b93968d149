"""Plain and slow answers about ways: stories one by one, and tables word by word."""

from brute import copyings_upto, is_number, is_sequence, is_slow_lag, key_of, led, pieces_by, slow_lag


def stories_upto(way, number, most, clean=False):
    """All stories of a number up to a price, as tuples (end, price, papers, slipped)."""
    out = []

    def go(papers, price, slipped):
        k = len(papers) - 1
        paper = papers[-1]
        if k == len(way.stations):
            out.append((("arrived", paper), price, papers, slipped))
            return
        station = way.stations[k]
        stop = (("stopped", k, paper), price, papers, slipped)
        if station[0] in ("hand", "echo"):
            for copying, more in copyings_upto(station[1], paper, 0 if clean else most - price):
                copy = "".join(behind for _, behind in copying)
                lot = (*slipped, k) if any(one != other for one, other in copying) else slipped
                if station[0] == "hand":
                    go((*papers, copy), price + more, lot)
                elif copy == papers[station[2]]:
                    go((*papers, paper), price + more, lot)
                else:
                    out.append((("stopped", k, paper), price + more, papers, lot))
        elif station[0] == "desk":
            walk = station[1].walk
            if led(walk, 0, paper) in walk.goals:
                go((*papers, paper), price, slipped)
            else:
                out.append(stop)
        elif station[0] == "clerk":
            walk = station[1].walk
            checks = [sign for sign in way.signs if led(walk, 0, paper[:-1] + sign) in walk.goals]
            if paper and checks:
                go((*papers, paper[:-1] + checks[0]), price, slipped)
            else:
                out.append(stop)
        else:
            texts = dict(zip(way.signs, station[1]))
            go((*papers, station[2] + "".join(texts[sign] for sign in paper) + station[3]), price, slipped)

    go((number,), 0, ())
    return out


def lies_upto(way, numbers, most):
    """All lies of some numbers up to a price, as tuples (price, papers)."""
    out = []
    for number in numbers:
        clean, = stories_upto(way, number, 0, clean=True)
        for end, price, papers, _ in stories_upto(way, number, most):
            if end[0] == "arrived" and clean[0] != end:
                out.append((price, papers))
    return sorted(out, key=lambda lie: (lie[0], [key_of(paper) for paper in lie[1]]))


def suspects_upto(way, numbers, most):
    """For each sight that some numbers lead to the least price of each lot."""
    out = {}
    for number in numbers:
        for end, price, _, slipped in stories_upto(way, number, most):
            lots = out.setdefault(end, {})
            lots[slipped] = min(price, lots.get(slipped, price))
    return out


def hand_choices(hand, state, sign):
    """What a hand can do with a sign: tuples (price, state, written)."""
    pairs = {pair: price for pair, price in pieces_by(hand).items() if pair[0] != pair[1]}
    out = [(0, "", sign)] if state == "" else []
    out += [(price, "", behind) for (before, behind), price in pairs.items() if before == state + sign]
    if any(before != state + sign and before.startswith(state + sign) for before, _ in pairs):
        out.append((0, state + sign, ""))
    return out


def first_state(station):
    return {"hand": "", "desk": 0, "clerk": (0, ""), "spell": 0, "echo": ("", "=")}[station[0]]


def read_sign(way, station, state, sign, clean):
    """What a station can do with one sign: tuples (price, state, written); the echo has only the copy in its lag."""
    kind = station[0]
    if kind == "hand":
        return [(0, "", sign)] if clean else hand_choices(station[1], state, sign)
    if kind == "echo":
        choices = [(0, "", sign)] if clean else hand_choices(station[1], state[0], sign)
        return [(price, (signs, slow_lag(state[1], written, "")), sign) for price, signs, written in choices]
    if kind == "desk":
        return [(0, led(station[1].walk, state, sign), sign)]
    if kind == "clerk":
        at, held = state
        return [(0, (led(station[1].walk, at, held), sign), held)]
    text = station[1][way.signs.index(sign)]
    return [(0, 1, station[2] + text if state == 0 else text)]


def read_text(way, station, state, text, clean):
    out = [(0, state, "")]
    for sign in text:
        out = [(price + more, to, written + next_text) for price, here, written in out
               for more, to, next_text in read_sign(way, station, here, sign, clean)]
    return out


def at_the_end(station, state):
    """What a station writes at the end, None if it stops the paper."""
    kind = station[0]
    if kind == "hand":
        return "" if state == "" else None
    if kind == "echo":
        return "" if state[0] == "" and state[1] == "=" else None
    if kind == "desk":
        return "" if state in station[1].walk.goals else None
    if kind == "spell":
        return station[3] if state == 1 else station[2] + station[3]
    walk = station[1].walk
    checks = [sign for sign in walk.signs if led(walk, state[0], sign) in walk.goals]
    return checks[0] if state[1] and checks else None


def go_on(way, stations, states, text, ending=False, clean=False):
    """All that stations can do with the next text of paper 0: tuples (price, states, texts, slipped)."""
    out = [(0, (), (text,), ())]
    for k, station in enumerate(stations):
        further = []
        for price, behind, texts, slipped in out:
            for more, state, written in read_text(way, station, states[k], texts[-1], clean):
                if station[0] == "echo":
                    state = (state[0], slow_lag(state[1], "", texts[station[2]]))
                rest = at_the_end(station, state) if ending else ""
                if rest is not None:
                    further.append((price + more, (*behind, state), (*texts, written + rest),
                                    (*slipped, k) if more else slipped))
        out = further
    return out


def is_left_out(station, state):
    """Whether an entry with this state in a story is left out."""
    if station[0] == "echo":
        return state[1] == "#"
    if station[0] in ("desk", "clerk"):
        return station[1].walk.least_paper(state if station[0] == "desk" else state[0]) is None
    return False


def is_state(way, station, thing, clean=False):
    """Whether a thing has the form of a state."""
    kind = station[0]
    begun = {""}
    if kind in ("hand", "echo") and not clean:
        begun |= {before[:many] for before, _ in pieces_by(station[1]) for many in range(len(before))}
    if kind == "hand":
        return thing.__class__ is str and thing in begun
    if kind == "desk":
        return is_number(thing, 0, len(station[1].walk) - 1)
    if kind == "spell":
        return is_number(thing, 0, 1)
    if not is_sequence(thing, 2):
        return False
    if kind == "echo":
        return thing[0].__class__ is str and thing[0] in begun and is_slow_lag(way.signs, thing[1])
    return (is_number(thing[0], 0, len(station[1].walk) - 1) and thing[1].__class__ is str
            and (thing[1] == "" or (len(thing[1]) == 1 and thing[1] in way.signs)))


class SlowTrust:
    """The table of a way, word by word."""

    def __init__(self, way, most):
        self.way, self.most = way, most
        self.walk = way.series.walk
        states = tuple(first_state(station) for station in way.stations)
        self.beginning = (0, states, states, 0, "=")

    def form(self, thing):
        return (is_sequence(thing, 5) and is_number(thing[0], 0, len(self.walk) - 1)
                and is_sequence(thing[1], len(self.way)) and is_sequence(thing[2], len(self.way))
                and all(is_state(self.way, *pair) for pair in zip(self.way.stations, thing[1]))
                and all(is_state(self.way, *pair, clean=True) for pair in zip(self.way.stations, thing[2]))
                and is_number(thing[3], 0, 10 ** 40) and is_slow_lag(self.way.signs, thing[4]))

    def left_out(self, entry):
        return (self.walk.least_paper(entry[0]) is None or entry[3] > self.most
                or any(is_left_out(*pair) for pair in zip(self.way.stations, entry[1])))

    def bad(self, entry):
        at, now, clean, spent, lag = entry
        if at not in self.walk.goals:
            return False
        cleans = go_on(self.way, self.way.stations, clean, "", ending=True, clean=True)
        for price, _, texts, _ in go_on(self.way, self.way.stations, now, "", ending=True):
            if spent + price <= self.most and (not cleans or slow_lag(lag, texts[-1], cleans[0][2][-1]) != "="):
                return True
        return False

    def steps(self, entry):
        at, now, clean, spent, lag = entry
        out = []
        for sign in self.way.signs:
            (_, clean_to, clean_texts, _), = go_on(self.way, self.way.stations, clean, sign, clean=True)
            for price, states, texts, _ in go_on(self.way, self.way.stations, now, sign):
                out.append((led(self.walk, at, sign), states, clean_to, spent + price,
                            slow_lag(lag, texts[-1], clean_texts[-1])))
        return out


class SlowDoubts:
    """The table of a point of a way, word by word."""

    def __init__(self, way, point, most):
        self.way, self.point, self.most = way, point, most
        self.walk = way.series.walk
        self.ahead = way.stations[:point]
        self.seen = way.stations[:point + 1]
        states = tuple(first_state(station) for station in self.seen)
        self.beginning = ((0, states, 0, ()), (0, states, 0, ()), "=")

    def form(self, thing):
        return (is_sequence(thing, 3) and all(self.trail_form(trail) for trail in thing[:2])
                and is_slow_lag(self.way.signs, thing[2]))

    def trail_form(self, thing):
        slipping = [k for k, station in enumerate(self.ahead) if station[0] in ("hand", "echo")]
        return (is_sequence(thing, 4) and is_number(thing[0], 0, len(self.walk) - 1)
                and is_sequence(thing[1], len(self.seen))
                and all(is_state(self.way, *pair) for pair in zip(self.seen, thing[1]))
                and is_number(thing[2], 0, 10 ** 40) and thing[3].__class__ in (tuple, list)
                and all(k.__class__ is int and k in slipping for k in thing[3])
                and list(thing[3]) == sorted(set(thing[3])))

    def left_out(self, entry):
        return entry[2] == "#" or any(
            self.walk.least_paper(at) is None or spent > self.most
            or any(is_left_out(*pair) for pair in zip(self.ahead, states)) for at, states, spent, _ in entry[:2])

    def bad(self, entry):
        one, other, over = entry
        if one[3] == other[3] or over != "=":
            return False
        for at, states, spent, _ in (one, other):
            if at not in self.walk.goals or not go_on(self.way, self.ahead, states, "", ending=True):
                return False
            if self.point < len(self.way) and states[-1] in self.way.stations[self.point][1].walk.goals:
                return False
        return True

    def behind(self, trail):
        at, states, spent, slipped = trail
        out = []
        for sign in self.way.signs:
            for price, to, texts, lot in go_on(self.way, self.ahead, states, sign):
                if self.point < len(self.way):
                    to = (*to, led(self.way.stations[self.point][1].walk, states[-1], texts[-1]))
                out.append((texts[-1], (led(self.walk, at, sign), to, spent + price,
                                        tuple(sorted({*slipped, *lot})))))
        return out

    def steps(self, entry):
        one, other, over = entry
        out = []
        if over[0] in "=-":
            out += [(to, other, slow_lag(over, text, "")) for text, to in self.behind(one)]
        if over[0] in "=+":
            out += [(one, to, slow_lag(over, "", text)) for text, to in self.behind(other)]
        return out
