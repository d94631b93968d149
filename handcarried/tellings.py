"""The papers of the least lie that one number tells for a price ([24])."""

from handcarried.nets import Texts, grown_net
from handcarried.papers import lag_on


class Telling:
    """The stories of a number up to a price, gone through so that each step writes one sign on one paper at most.

    A node is a tuple (done, ended, states, spent, lag, coming): how many signs of the number have come (one more when
    it has ended), how many stations have read the end, the states, the price and the lag as in the table of the way,
    and for each paper the text that is still to be written on it.
    """

    def __init__(self, course, number, price):
        self.stations = course.stations
        self.echoes = course.echoes
        self.last = len(course.stations)
        self.price = price
        self.number = number
        self.clean_texts = clean_texts(course, number)
        self.beginning = (0, 0, course.beginning, 0, "=", ("",) * (self.last + 1))

    def moves(self, node):
        """The steps of a node, which tell what is written on each paper."""
        coming = node[5]
        # What is written last goes on first, so that each sign has gone as far as it can before the next one comes.
        for paper in range(self.last, -1, -1):
            if coming[paper] != "":
                return self.writings(node, paper)
        if node[0] <= len(self.number):
            return [(coming, self.next_sign(node))]
        return [(coming, behind) for behind in self.next_ends(node)]

    def next_sign(self, node):
        """The node when the next sign of the number has come, or the number has ended."""
        done, ended, states, spent, lag, coming = node
        text = self.clean_texts[done]
        further = "#" if text is None else lag_on(lag, "", text)
        return done + 1, ended, states, spent, further, (self.number[done:done + 1], *coming[1:])

    def next_ends(self, node):
        """The node when the next station has read the end; none if it stops the paper, or all have."""
        done, ended, states, spent, lag, coming = node
        text = self.stations[ended].ended(states[ended]) if ended < self.last else None
        if text is None:
            return []
        return [(done, ended + 1, states, spent, lag, (*coming[:ended + 1], text, *coming[ended + 2:]))]

    def writings(self, node, paper):
        """The steps that write the next sign on a paper, one for each thing that the station behind can do."""
        done, ended, states, spent, lag, coming = node
        sign = coming[paper][0]
        told = ("",) * paper + (sign,) + ("",) * (self.last - paper)
        ahead = (*coming[:paper], coming[paper][1:])
        heard = [station.compared(state, sign) if at in self.echoes.get(paper, []) else state
                 for at, (station, state) in enumerate(zip(self.stations, states))]
        if paper == self.last:
            return [(told, (done, ended, tuple(heard), spent, lag_on(lag, sign, ""), ahead))]
        station = self.stations[paper]
        return [(told, (done, ended, (*heard[:paper], state, *heard[paper + 1:]), spent + price, lag,
                        (*ahead, text, *coming[paper + 2:])))
                for price, state, text in station.readings(heard[paper], sign)
                if spent + price <= self.price and not station.left_out(state)]

    def is_end(self, node):
        """Whether a lie has arrived, for just the price."""
        _, ended, _, spent, lag, coming = node
        return ended == self.last and coming[self.last] == "" and spent == self.price and lag != "="

    def least_papers(self):
        """The least papers of all lies of the number for the price; there is one."""
        net = grown_net(self, [self.beginning], {})
        ends = [node for node in net if self.is_end(node)]
        papers = []
        while len(papers) <= self.last:
            paper, net = Texts(net, ends, len(papers)).least_from(self.beginning)
            papers.append(paper)
        return tuple(papers)


def clean_texts(course, number):
    """What arrives in the clean story for each sign of a number, and at its end; None there if it is stopped."""
    texts = []
    states = course.beginning
    for sign in number:
        states, text = course.clean_going(states, sign)
        texts.append(text)
    return [*texts, course.clean_ending(states)[1]]
