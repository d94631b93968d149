"""Asking back: what some papers are worth asking, the table of it, and plans of questions ([31], [32])."""

from handcarried.errors import BadAnswer, NoPlan
from handcarried.kinds import as_tuples, is_ascending, is_tuple, is_tuple_of, is_whole, is_within
from handcarried.menus import require_heard, require_menu, require_papers


class Asking:
    """What it costs at most to find out, by questions, which of some papers somebody holds."""

    def __init__(self, papers, menu, *, heard=()):
        self.questions = Questions(papers, menu, heard)
        self.found = found_values(self.questions)
        self.value = self.found[self.questions.whole][0]
        self.table = tuple([(lot, *self.found[lot]) for lot in sorted(self.found, key=lot_key)])

    def __bool__(self):
        return self.value is not None

    def plan(self):
        """The plan of all papers."""
        return self.plan_of(self.known_lot())

    def led(self, answers):
        """The plan that is reached with some answers."""
        lot = self.known_lot()
        for number, answer in enumerate(answers):
            choice = self.found[lot][1]
            parts = [] if choice is None else self.questions.parts(lot, choice)
            behind = [part for told, part in parts if is_same_answer(told, answer)]
            if not behind:
                raise BadAnswer(number)
            lot = behind[0]
        return self.plan_of(lot)

    def known_lot(self):
        """The lot of all papers; NoPlan."""
        if self.value is None:
            raise NoPlan(len(self.questions.papers))
        return self.questions.whole

    def plan_of(self, lot):
        """The plan of a lot that has a value."""
        choice = self.found[lot][1]
        if choice is None:
            return "told", self.questions.papers[lot[0]]
        branches = [(answer, self.plan_of(part)) for answer, part in self.questions.parts(lot, choice)]
        return "ask", self.questions.menu[choice][0], tuple(branches)


def judge_values(papers, menu, heard, table):
    """-1, the number of the first wrong entry of a table of values, or None if it is right."""
    questions = Questions(papers, menu, heard)
    if not is_tuple(table):
        return -1
    entries = [entry_of(questions, thing) for thing in table]
    told = {}
    for entry in entries:
        if entry is not None:
            told.setdefault(entry[0], []).append(entry[1:])
    if questions.whole not in told:
        return -1
    firsts = {lot: others[0] for lot, others in told.items()}
    for number, entry in enumerate(entries):
        if entry is None or any([other != entry[1:] for other in told[entry[0]]]):
            return number
        if not is_right_entry(questions, firsts, entry):
            return number
    return None


def answers_of(question, paper, heard):
    """The answers to a question that can be heard for a paper, in order."""
    if question[0] == "long":
        return (len(paper),)
    place = question[1]
    if place >= len(paper):
        return ("",)
    said = paper[place] if question[0] == "sign" else paper[len(paper) - 1 - place]
    return tuple(sorted(set([said, *[sign for one, sign in heard if one == said]])))


class Questions:
    """Some papers, and the questions that can be asked for them."""

    def __init__(self, papers, menu, heard):
        require_papers(papers)
        require_menu(menu)
        require_heard(heard)
        self.papers = tuple(papers)
        self.menu = as_tuples(menu)
        self.whole = tuple(list(range(len(papers))))
        self.answers = [[answers_of(question, paper, heard) for paper in papers] for question, _ in self.menu]

    def parts(self, lot, number):
        """The pairs of an answer to the question with this number and the part of a lot for it, in order."""
        answers = self.answers[number]
        told = sorted({answer for paper in lot for answer in answers[paper]})
        return [(answer, tuple([paper for paper in lot if answer in answers[paper]])) for answer in told]

    def parting_questions(self, lot):
        """The pairs of the number of a question that parts a lot and its parts."""
        out = []
        for number in range(len(self.menu)):
            parts = [part for _, part in self.parts(lot, number)]
            if all([len(part) < len(lot) for part in parts]):
                out.append((number, parts))
        return out


def found_values(questions):
    """The value and the choice of each lot that comes up."""
    found = [questions.whole]
    partings = {}
    done = 0
    while done < len(found):
        lot = found[done]
        done += 1
        if lot not in partings:
            partings[lot] = questions.parting_questions(lot) if len(lot) > 1 else []
            for _, parts in partings[lot]:
                found.extend(parts)
    values = {}
    for lot in sorted(partings, key=lot_key):
        values[lot] = value_and_choice(questions, lot, partings[lot], values)
    return values


def value_and_choice(questions, lot, parting, values):
    """The value and the choice of a lot, reckoned from those of the parts of the questions that part it."""
    if len(lot) == 1:
        return 0, None
    best = (None, None)
    for number, parts in parting:
        worths = [values[part][0] for part in parts]
        if None not in worths:
            value = questions.menu[number][1] + max(worths)
            if best[0] is None or value < best[0]:
                best = (value, number)
    return best


def lot_key(lot):
    """What lots are ordered by in a table of values."""
    return len(lot), lot


def entry_of(questions, thing):
    """The entry that a thing is, as tuples; None if it does not have the form."""
    if not is_tuple_of(thing, 3, 3) or not is_lot(thing[0]):
        return None
    if thing[1] is not None and (not is_whole(thing[1]) or thing[1] < 0):
        return None
    if thing[2] is not None and not is_within(thing[2], 0, len(questions.menu) - 1):
        return None
    return tuple(thing[0]), thing[1], thing[2]


def is_lot(thing):
    """Whether a thing is a lot."""
    return is_tuple(thing) and all([is_whole(number) for number in thing]) and is_ascending(thing)


def is_right_entry(questions, firsts, entry):
    """Whether an entry tells what is reckoned from the first entries of the parts of its lot."""
    lot = entry[0]
    if len(lot) == 0 or not all([number in questions.whole for number in lot]):
        return False
    parting = questions.parting_questions(lot) if len(lot) > 1 else []
    if any([part not in firsts for _, parts in parting for part in parts]):
        return False
    return entry[1:] == value_and_choice(questions, lot, parting, firsts)


def is_same_answer(told, answer):
    """Whether an answer is the one that was told; True and False are no lengths."""
    return (isinstance(answer, str) or is_whole(answer)) and answer == told
