"""Forms: fields of signs, readings, and the walk of a form ([6])."""

from handcarried.errors import BadForm, TooMany, Twice
from handcarried.kinds import as_tuples, first_double, is_ascending, is_text, is_tuple_of, is_within
from handcarried.names import is_name
from handcarried.papers import MOST_KINDS, require_paper, require_signs
from handcarried.places import lot_rows
from handcarried.walks import least_walk

MOST_FIELDS = 6
MOST_LEAST = 12
MOST_RUN = 12
MOST_WORDS = 12
MOST_WORD_SIGNS = 4
MOST_READINGS = 500


def check_form(signs, form):
    """The form as tuples throughout."""
    require_signs(signs)
    return checked_form(signs, form)


def readings(signs, form, paper):
    """All readings of a paper by a form, ordered by the lengths of their parts."""
    fields = check_form(signs, form)
    require_paper(signs, paper)
    found = [()]
    ends = [0]
    for many_at in part_lengths(fields, paper):
        found = [(*parts, paper[at:at + many]) for parts, at in zip(found, ends) for many in many_at[at]]
        ends = [at + many for at in ends for many in many_at[at]]
        # Each beginning of a reading that is gone through leads to a reading at least.
        if len(found) > MOST_READINGS:
            raise TooMany("reading")
    return tuple(found)


def form_walk(signs, form):
    """The walk of the papers that a form lets by."""
    rows, goals = lot_rows(signs, check_form(signs, form))
    return least_walk(signs, rows, goals)


def checked_form(signs, form):
    """The form as tuples throughout; BadForm, Twice."""
    if not is_tuple_of(form, 1, MOST_FIELDS):
        raise BadForm(-1)
    for number, field in enumerate(form):
        if not is_field(signs, field):
            raise BadForm(number)
    name = first_double([field[1] for field in form])
    if name is not None:
        raise Twice(name)
    return as_tuples(form)


def is_field(signs, thing):
    """Whether a thing is a field."""
    if not is_tuple_of(thing, 3, 5) or not is_name(thing[1]):
        return False
    if thing[0] == "run":
        return len(thing) == 5 and is_run(signs, thing[2], thing[3], thing[4])
    return thing[0] == "words" and len(thing) == 3 and are_words(signs, thing[2])


def is_run(signs, allowed, least, most):
    """Whether these are what a run tells."""
    if not is_text(allowed, 1, MOST_KINDS, signs) or not is_ascending(allowed):
        return False
    if not is_within(least, 0, MOST_LEAST):
        return False
    return most is None or is_within(most, max(1, least), MOST_RUN)


def are_words(signs, thing):
    """Whether a thing is a tuple of different words of a field."""
    if not is_tuple_of(thing, 1, MOST_WORDS):
        return False
    if not all([is_text(word, 1, MOST_WORD_SIGNS, signs) for word in thing]):
        return False
    return first_double(thing) is None


def part_lengths(fields, paper):
    """For each field and place in the paper the lengths of parts from which a reading can go on to the end."""
    ends = {len(paper): True}
    out = []
    for field in fields[::-1]:
        many_at = [[many for many in field_lengths(field, paper, at) if at + many in ends]
                   for at in range(len(paper) + 1)]
        ends = {at: True for at, lengths in enumerate(many_at) if lengths}
        out.append(many_at)
    return out[::-1]


def field_lengths(field, paper, at):
    """The lengths of the parts from a place in a paper on that a field lets by, ascending."""
    if field[0] == "words":
        return sorted(set([len(word) for word in field[2] if paper.startswith(word, at)]))
    allowed, least, most = field[2:]
    many = 0
    while at + many < len(paper) and paper[at + many] in allowed and (most is None or many < most):
        many += 1
    return list(range(least, many + 1))
