"""Whether each paper has at most one reading by a form ([6])."""

from handcarried.forms import check_form, form_walk
from handcarried.nets import Texts, grown_net
from handcarried.places import first_places_of, place_moves

BEGINNING = ((-1, 0), (-1, 0), 0)


class Clear:
    """Whether a form is clear; if not, its least doubtful paper."""

    def __init__(self, signs, form):
        # Made for its errors alone: a form is judged here as where its walk is asked for.
        form_walk(signs, form)
        self.doubtful = least_doubtful(signs, check_form(signs, form))

    def __bool__(self):
        return self.doubtful is None


class Doubt:
    """Two readings of one paper: the places at which both stand, the lesser one first, and 1 once they have parted.

    A reading goes through just one row of places, as each place tells which field reads the next sign.
    """

    def __init__(self, signs, fields):
        self.signs = signs
        self.behind = place_moves(signs, fields)
        self.first = first_places_of(fields, 0)

    def moves(self, node):
        """The steps to all that two readings can be behind the next sign, which the steps tell."""
        one, other, parted = node
        if node == BEGINNING:
            return [(("",), to) for to in two_of(self.first, self.first, 0)]
        return [((sign,), to) for value, sign in enumerate(self.signs)
                for to in two_of(self.behind[one][value], self.behind[other][value], parted)]


def two_of(ones, others, parted):
    """What two readings can be when the next places of each are these; both are the same places unless parted."""
    if parted:
        return sorted({(min(one, other), max(one, other), 1) for one in ones for other in others})
    return [(one, other, 1 if one != other else 0) for one in ones for other in ones if one <= other]


def least_doubtful(signs, fields):
    """The least paper that has two readings; None if there is none."""
    end = (len(fields), 0)
    stops = {(end, end, 1): True}
    net = grown_net(Doubt(signs, fields), [BEGINNING], stops)
    texts = Texts(net, list(stops), 0)
    if BEGINNING not in texts.sizes:
        return None
    return texts.least_from(BEGINNING)[0]
