"""What each kind of station does sign by sign ([25]), and the form of its states ([26]).

A station is an object that tells:
beginning (an attribute): its state at the beginning;
readings(state, sign): all that it can do when it reads a sign: tuples (price, state, written), some of which may be
left out;
clean_going(state, texts): the state and what is written in the clean story, where nothing stops, when the papers go on
by texts, of which it reads the last one;
left_out(state): whether no story that arrives has this state;
ended(state): what is written at the end, None if the paper is stopped;
state_of(thing), clean_state_of(thing): the state that a thing is, as tuples; None if it does not have the form.
"""

from handcarried.kinds import is_text, is_tuple_of, is_within
from handcarried.papers import is_lag, lag_on
from handcarried.walks import standing_behind


class PlainStation:
    """A station without choices: what it can do is what it does in the clean story."""

    def readings(self, state, sign):
        """The one thing that it can do."""
        return [(0, *self.clean_going(state, [sign]))]

    def clean_state_of(self, thing):
        """The same as in other stories."""
        return self.state_of(thing)


class HandStation:
    """Writes a copy; the state is the signs of a piece that have been read so far."""

    def __init__(self, hand):
        self.beginning = ""
        self.begun = begun_befores(hand)
        self.choices = {("", sign): [(0, "", sign)] for sign in hand.signs}
        for before, behind, price in hand.pairs:
            self.choices.setdefault((before[:-1], before[-1]), []).append((price, "", behind))
        for signs in self.begun:
            if signs != "":
                self.choices.setdefault((signs[:-1], signs[-1]), []).append((0, signs, ""))

    def readings(self, state, sign):
        """Each choice for the sign."""
        return self.choices.get((state, sign), [])

    def clean_going(self, state, texts):
        """Each sign is written."""
        return state, texts[-1]

    def left_out(self, state):
        """A piece can come of whatever has been read."""
        return False

    def ended(self, state):
        """Nothing, if no piece has been begun."""
        return "" if state == "" else None

    def state_of(self, thing):
        """A proper beginning of the before of a pair."""
        return thing if isinstance(thing, str) and thing in self.begun else None

    def clean_state_of(self, thing):
        """No piece is begun."""
        return thing if isinstance(thing, str) and thing == "" else None


class DeskStation(PlainStation):
    """Writes the paper as it is; the state is a standing of the walk of its series."""

    def __init__(self, series):
        self.beginning = 0
        self.walk = series.walk
        self.lively = {at: True for at in series.walk.live}

    def clean_going(self, state, texts):
        """The standing goes on."""
        return standing_behind(self.walk, texts[-1], state), texts[-1]

    def left_out(self, state):
        """Whether no number goes through the standing."""
        return state not in self.lively

    def ended(self, state):
        """Nothing, if the paper is a number."""
        return "" if state in self.walk.goals else None

    def state_of(self, thing):
        """A standing."""
        return thing if is_within(thing, 0, len(self.walk) - 1) else None


class ClerkStation(PlainStation):
    """Puts the last sign anew; the state is a pair of a standing and the sign that is held back."""

    def __init__(self, series):
        self.beginning = (0, "")
        self.walk = series.walk
        self.lively = {at: True for at in series.walk.live}

    def clean_going(self, state, texts):
        """All signs but the last one are written."""
        standing, held = state
        whole = held + texts[-1]
        written = whole[:-1]
        return (standing_behind(self.walk, written, standing), whole[-1:]), written

    def left_out(self, state):
        """Whether no number goes through the standing."""
        return state[0] not in self.lively

    def ended(self, state):
        """The least check sign in the place of the sign that is held."""
        standing, held = state
        return None if held == "" else least_check(self.walk, standing)

    def state_of(self, thing):
        """A standing, and a sign or none."""
        if not is_tuple_of(thing, 2, 2) or not is_within(thing[0], 0, len(self.walk) - 1):
            return None
        return tuple(thing) if is_text(thing[1], 0, 1, self.walk.signs) else None


class SpellStation(PlainStation):
    """Writes a text for each sign; the state is 1 once a sign has been read."""

    def __init__(self, signs, texts, ahead, behind):
        self.beginning = 0
        self.signs = signs
        self.texts = texts
        self.ahead = ahead
        self.behind = behind

    def clean_going(self, state, texts):
        """Each sign is spelled."""
        if texts[-1] == "":
            return state, ""
        return 1, self.opening(state) + "".join([self.texts[self.signs.index(sign)] for sign in texts[-1]])

    def left_out(self, state):
        """A speller lets everything by."""
        return False

    def ended(self, state):
        """What stands behind."""
        return self.opening(state) + self.behind

    def opening(self, state):
        """What stands ahead, unless it has been written."""
        return self.ahead if state == 0 else ""

    def state_of(self, thing):
        """0 or 1."""
        return thing if is_within(thing, 0, 1) else None


class EchoStation:
    """Writes the paper as it is; the state is a pair of that of its hand and the lag of its copy and a paper."""

    def __init__(self, hand, paper):
        self.beginning = ("", "=")
        self.signs = hand.signs
        self.hand = HandStation(hand)
        self.paper = paper

    def readings(self, state, sign):
        """Each choice of the hand."""
        return [(price, (signs, lag_on(state[1], written, "")), sign)
                for price, signs, written in self.hand.readings(state[0], sign)]

    def compared(self, state, sign):
        """The state when the paper with which it compares has gone on by a sign."""
        return state[0], lag_on(state[1], "", sign)

    def clean_going(self, state, texts):
        """The hand writes each sign."""
        return (state[0], lag_on(state[1], texts[-1], texts[self.paper])), texts[-1]

    def left_out(self, state):
        """Whether the copy and the paper have parted."""
        return state[1] == "#"

    def ended(self, state):
        """Nothing, if the copy is the paper."""
        return "" if state == ("", "=") else None

    def state_of(self, thing):
        """A state of the hand and a lag."""
        if not is_tuple_of(thing, 2, 2) or self.hand.state_of(thing[0]) is None:
            return None
        return tuple(thing) if is_lag(self.signs, thing[1]) else None

    def clean_state_of(self, thing):
        """No piece is begun, and a lag."""
        state = self.state_of(thing)
        return None if state is None or state[0] != "" else state


def begun_befores(hand):
    """All proper beginnings of the befores of a hand, the empty one, too."""
    found = {"": True}
    for before, _, _ in hand.pairs:
        for many in range(1, len(before)):
            found[before[:many]] = True
    return found


def least_check(walk, standing):
    """The least sign that leads from a standing of a walk to a goal; None if there is none."""
    for sign, to in zip(walk.signs, walk.rows[standing]):
        if to in walk.goals:
            return sign
    return None


def made_station(signs, station):
    """The station of a way as it goes on sign by sign."""
    kind = station[0]
    if kind == "hand":
        return HandStation(station[1])
    if kind == "desk":
        return DeskStation(station[1])
    if kind == "clerk":
        return ClerkStation(station[1])
    if kind == "spell":
        return SpellStation(signs, station[1], station[2], station[3])
    return EchoStation(station[1], station[2])
