"""The course of a number through some stations, sign by sign, in the clean story and in all stories ([25])."""

from handcarried.stations import made_station


class CleanCourse:
    """Some stations, one behind the other, in the clean story; their states together are a tuple."""

    def __init__(self, signs, stations):
        self.stations = [made_station(signs, station) for station in stations]
        self.beginning = tuple([station.beginning for station in self.stations])
        self.known_clean = {}

    def clean_going(self, states, sign):
        """The states behind a sign of the number, and what the last station writes; all stations go on."""
        key = (states, sign)
        if key not in self.known_clean:
            behind = []
            texts = [sign]
            for state, station in zip(states, self.stations):
                to, written = station.clean_going(state, texts)
                behind.append(to)
                texts.append(written)
            self.known_clean[key] = (tuple(behind), texts[-1])
        return self.known_clean[key]

    def clean_ending(self, states):
        """The first station that stops the clean story, None if it arrives; and what the last one writes then."""
        texts = [""]
        for number, station in enumerate(self.stations):
            state, written = station.clean_going(states[number], texts)
            more = station.ended(state)
            if more is None:
                return number, None
            texts.append(written + more)
        return None, texts[-1]


class Course(CleanCourse):
    """The same in all stories, and what a watcher sees of the papers.

    A watcher tells by papers (an attribute) which papers it watches, and by sees(seen, number, sign) what it has
    seen when the paper with this number has gone on by a sign; None if this story is not looked for.
    A stand is a tuple (price, slipped, states, seen): what has been paid and who has slipped since the beginning, and
    what there is now. Stands that have come to be equal are one, so that there never are very many.
    """

    def __init__(self, signs, stations, watcher, *, blaming=False):
        CleanCourse.__init__(self, signs, stations)
        self.watcher = watcher
        self.blaming = blaming
        self.echoes = {}
        for number, station in enumerate(stations):
            if station[0] == "echo":
                self.echoes.setdefault(station[2], []).append(number)
        self.known = {}

    def goings(self, states, sign, left, seen):
        """All stands behind a sign of the number that cost at most a price."""
        key = (states, sign, left, seen)
        if key not in self.known:
            self.known[key] = self.behind_sign([(0, (), states, seen)], 0, sign, left)
        return self.known[key]

    def endings(self, states, left, seen):
        """All stands when the number has ended and no station stops the paper."""
        key = (states, "", left, seen)
        if key not in self.known:
            stands = [(0, (), states, seen)]
            for number, station in enumerate(self.stations):
                writing = {}
                for stand in stands:
                    text = station.ended(stand[2][number])
                    if text is not None:
                        writing.setdefault(text, []).append(stand)
                stands = self.behind_texts(writing, number + 1, left)
            self.known[key] = stands
        return self.known[key]

    def behind_texts(self, writing, number, left):
        """The stands when a paper has gone on by texts; writing has for each text the stands ahead of it."""
        out = {}
        for text, ahead in writing.items():
            stands = list(ahead)
            for sign in text:
                stands = self.behind_sign(stands, number, sign, left)
            for stand in stands:
                out[stand] = True
        return list(out)

    def behind_sign(self, stands, number, sign, left):
        """The stands when a paper has gone on by a sign, and so all that is written for it by the stations behind."""
        noticed = self.noticed(stands, number, sign)
        if number == len(self.stations):
            return noticed
        station = self.stations[number]
        writing = {}
        for spent, slipped, states, seen in noticed:
            for price, state, text in station.readings(states[number], sign):
                if spent + price <= left and not station.left_out(state):
                    lot = with_slip(slipped, number) if self.blaming and price > 0 else slipped
                    behind = (*states[:number], state, *states[number + 1:])
                    writing.setdefault(text, {})[spent + price, lot, behind, seen] = True
        return self.behind_texts(writing, number + 1, left)

    def noticed(self, stands, number, sign):
        """The stands when echoes have compared with a paper that went on by a sign, and the watcher has seen it."""
        echoes = self.echoes.get(number, [])
        watched = number in self.watcher.papers
        if not echoes and not watched:
            return stands
        out = []
        for spent, slipped, states, seen in stands:
            told = [station.compared(state, sign) if at in echoes else state
                    for at, (station, state) in enumerate(zip(self.stations, states))]
            now = self.watcher.sees(seen, number, sign) if watched else seen
            if now is not None and not self.any_left_out(told):
                out.append((spent, slipped, tuple(told), now))
        return out

    def any_left_out(self, states):
        """Whether one of the states is one that no story that arrives has."""
        return any([station.left_out(state) for station, state in zip(self.stations, states)])

    def states_of(self, things, clean):
        """The states that some things are, as many as there are stations; None if one does not have the form."""
        states = [station.clean_state_of(thing) if clean else station.state_of(thing)
                  for station, thing in zip(self.stations, things)]
        return None if None in states else tuple(states)


def with_slip(lot, number):
    """A lot with one more number, which it may have already."""
    return lot if number in lot else tuple(sorted([*lot, number]))
