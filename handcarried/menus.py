"""The papers that are asked for, the menu of questions, and what can be heard ([31])."""

from handcarried.errors import BadHeard, BadMenu, BadPaper, Twice
from handcarried.kinds import first_double, is_text, is_tuple_of, is_within
from handcarried.papers import ALL_SIGNS, MOST_SIGNS

MOST_PAPERS = 8
MOST_QUESTIONS = 8
MOST_QUESTION_PRICE = 99
MOST_HEARD = 30


def require_papers(papers):
    """Raise BadPaper, or Twice."""
    if not is_tuple_of(papers, 1, MOST_PAPERS):
        raise BadPaper(papers)
    for paper in papers:
        if not is_text(paper, 0, MOST_SIGNS, ALL_SIGNS):
            raise BadPaper(paper)
    paper = first_double(papers)
    if paper is not None:
        raise Twice(paper)


def require_menu(menu):
    """Raise BadMenu."""
    if not is_tuple_of(menu, 1, MOST_QUESTIONS):
        raise BadMenu(-1)
    for number, pair in enumerate(menu):
        if not is_tuple_of(pair, 2, 2) or not is_question(pair[0]) or not is_within(pair[1], 1, MOST_QUESTION_PRICE):
            raise BadMenu(number)


def is_question(thing):
    """Whether a thing is a question."""
    if not is_tuple_of(thing, 1, 2):
        return False
    if len(thing) == 1:
        return thing[0] == "long"
    return thing[0] in ("sign", "last") and is_within(thing[1], 0, MOST_SIGNS - 1)


def require_heard(heard):
    """Raise BadHeard."""
    if not is_tuple_of(heard, 0, MOST_HEARD):
        raise BadHeard(-1)
    for number, pair in enumerate(heard):
        if not is_tuple_of(pair, 2, 2) or not all([is_text(sign, 1, 1, ALL_SIGNS) for sign in pair]):
            raise BadHeard(number)
        if pair[0] == pair[1]:
            raise BadHeard(number)
