"""The course of a number through some stations, sign by sign, in all stories and in the clean one ([25])."""

from handcarried.stations import made_station


class Course:
    """Some stations, one behind the other; their states together are a tuple.

    With blaming it is told which stations slip. With telling the texts of all papers are told; otherwise only what
    the last station writes surely is.
    """

    def __init__(self, signs, stations, *, blaming=False, telling=False):
        self.stations = [made_station(signs, station) for station in stations]
        self.beginning = tuple([station.beginning for station in self.stations])
        self.blaming = blaming
        self.needed = needed_texts(stations, telling)
        self.known = {}
        self.known_clean = {}

    def goings(self, states, sign, left):
        """All that the stations can do for at most a price when the number goes on by a sign.

        Told are tuples (price, slipped, states, texts).
        """
        key = (states, sign, left)
        if key not in self.known:
            self.known[key] = self.gone_on(states, sign, left, False)
        return self.known[key]

    def endings(self, states, left):
        """The same when the number ends, and no station stops the paper."""
        key = (states, "", left)
        if key not in self.known:
            self.known[key] = self.gone_on(states, "", left, True)
        return self.known[key]

    def gone_on(self, states, text, left, ending):
        """What the stations can do when paper 0 goes on by a text, and perhaps ends then."""
        done = {(0, (), (), (text,)): True}
        for number, station in enumerate(self.stations):
            further = {}
            for spent, slipped, behind, texts in done:
                for price, state, written in station.goings(states[number], texts, left - spent):
                    more = written_more(station, state, ending)
                    if more is not None:
                        lot = (*slipped, number) if self.blaming and price > 0 else slipped
                        kept = [told if need else "" for told, need in zip(texts, self.needed[number])]
                        further[spent + price, lot, (*behind, state), (*kept, written + more)] = True
            done = further
        return list(done)

    def clean_going(self, states, sign):
        """In the clean story, where all stations go on: the states, and what the last station writes."""
        key = (states, sign)
        if key not in self.known_clean:
            behind = []
            texts = [sign]
            for state, station in zip(states, self.stations):
                to, written = station.clean_going(state, texts)
                behind.append(to)
                texts.append(written)
            self.known_clean[key] = (tuple(behind), texts[-1])
        return self.known_clean[key]

    def clean_ending(self, states):
        """The first station that stops the clean story, None if it arrives; and what the last one writes then."""
        texts = [""]
        for number, station in enumerate(self.stations):
            state, written = station.clean_going(states[number], texts)
            more = station.ended(state)
            if more is None:
                return number, None
            texts.append(written + more)
        return None, texts[-1]

    def any_left_out(self, states):
        """Whether one of the states is one that no story that arrives has."""
        return any([station.left_out(state) for station, state in zip(self.stations, states)])

    def states_of(self, things, clean):
        """The states that some things are, as many as there are stations; None if one does not have the form."""
        states = [station.clean_state_of(thing) if clean else station.state_of(thing)
                  for station, thing in zip(self.stations, things)]
        return None if None in states else tuple(states)


def written_more(station, state, ending):
    """What a station writes behind what it has read, None if it lets no paper by."""
    if station.left_out(state):
        return None
    return station.ended(state) if ending else ""


def needed_texts(stations, telling):
    """For each station whether the texts of the papers up to the one that it reads are needed behind it."""
    echoed = [{station[2]: True} if station[0] == "echo" else {} for station in stations]
    return [[telling or any([paper in compared for compared in echoed[number + 1:]]) for paper in range(number + 1)]
            for number in range(len(stations))]
