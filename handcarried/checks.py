"""Whether each body of a series has just one check sign ([7])."""

from handcarried.nets import Texts, grown_net
from handcarried.sides import Sides
from handcarried.walks import standing_behind


class Completion:
    """Whether a series is complete; if not, its least open body with the check signs of it."""

    def __init__(self, series):
        self.body = least_open_body(series)

    def __bool__(self):
        return self.body is None


def least_open_body(series):
    """The least open body and the tuple of its check signs; None if the series is complete."""
    net = grown_net(Sides(series.frame, series.walk), [(0, 0)], {})
    checks = {pair: check_signs_of(series, steps) for pair, steps in net.items() if is_body(series, steps)}
    texts = Texts(net, [pair for pair, signs in checks.items() if len(signs) != 1], 0)
    if (0, 0) not in texts.sizes:
        return None
    body, _ = texts.least_from((0, 0))
    return body, checks[standing_behind(series.frame, body, 0), standing_behind(series.walk, body, 0)]


def is_body(series, steps):
    """Whether the form lets a paper by behind one of the steps from a pair of standings."""
    return any([framed in series.frame.goals for _, (framed, _) in steps])


def check_signs_of(series, steps):
    """The signs of those steps from a pair of standings behind which there are numbers."""
    return tuple([told[0] for told, (_, at) in steps if at in series.walk.goals])
