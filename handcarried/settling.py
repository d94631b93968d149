"""Settling: the fewest papers that tell apart all rules that can be told apart, and plans of trials ([34])."""

from handcarried.errors import BadAnswer
from handcarried.kinds import is_whole
from handcarried.signatures import Signatures


class Settling:
    """Lots of rules that are alike within a frame, and how papers tell them apart."""

    def __init__(self, frame, rules):
        self.shown = Signatures(frame, rules).shown
        self.lots = alike_lots(self.shown, len(rules))
        # For each paper that is told the flag of each lot.
        self.flags = [[signature[lot[0]] for lot in self.lots] for signature, _ in self.shown]
        self.whole = tuple(list(range(len(self.lots))))
        self.papers = tuple([self.shown[number][1] for number in settling_numbers(self.flags, len(self.lots))])
        self.known = {}
        self.value = self.best(self.whole)[0]

    def plan(self):
        """The plan with all lots open."""
        return self.plan_of(self.whole)

    def led(self, flags):
        """The plan that is reached with some flags."""
        still = self.whole
        for number, flag in enumerate(flags):
            if not is_whole(flag) or flag not in (0, 1) or len(still) == 1:
                raise BadAnswer(number)
            still = self.part(still, self.best(still)[1], flag)
        return self.plan_of(still)

    def best(self, still):
        """The value of some lots that are still open, and the first paper that gives it."""
        if still not in self.known:
            best = (0, None) if len(still) == 1 else (None, None)
            for number in range(len(self.shown)):
                wrong = self.part(still, number, 0)
                right = self.part(still, number, 1)
                if wrong and right:
                    value = 1 + max(self.best(wrong)[0], self.best(right)[0])
                    if best[0] is None or value < best[0]:
                        best = (value, number)
            self.known[still] = best
        return self.known[still]

    def part(self, still, number, flag):
        """Those of some lots that have this flag for a paper."""
        return tuple([lot for lot in still if self.flags[number][lot] == flag])

    def plan_of(self, still):
        """The plan with some lots still open."""
        if len(still) == 1:
            return "settled", self.lots[still[0]]
        number = self.best(still)[1]
        wrong = self.plan_of(self.part(still, number, 0))
        return "try", self.shown[number][1], wrong, self.plan_of(self.part(still, number, 1))


def alike_lots(shown, many):
    """The lots of so many rules that are alike, by what is shown of them."""
    lots = {}
    for rule in range(many):
        lots.setdefault(tuple([signature[rule] for signature, _ in shown]), []).append(rule)
    return tuple([tuple(lot) for lot in lots.values()])


def settling_numbers(flags, many):
    """The numbers of the fewest papers, the first ones as a tuple, for which no two of so many lots are the same."""
    chosen = [()]
    while True:
        for numbers in chosen:
            told = {tuple([flags[number][lot] for number in numbers]): True for lot in range(many)}
            if len(told) == many:
                return numbers
        chosen = [(*some, number) for some in chosen for number in range(some[-1] + 1 if some else 0, len(flags))]
