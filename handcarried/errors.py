"""All errors of the program. Each keeps its arguments as attributes."""

# No message shows what was passed: it may be deep, large, or anything at all.


class CarryError(ValueError):
    """The error above all others of the program."""


class Malformed(CarryError):
    """An argument does not have its form."""


class Refused(CarryError):
    """What was asked for is not there to be given."""


class BadSigns(Malformed):
    """No signs of a house."""

    def __init__(self, signs):
        super().__init__("these are no signs")
        self.signs = signs


class BadPaper(Malformed):
    """No paper of the signs, or a paper of too many signs."""

    def __init__(self, paper):
        super().__init__("this is no paper")
        self.paper = paper


class BadName(Malformed):
    """No name."""

    def __init__(self, name):
        super().__init__("this is no name")
        self.name = name


class BadWalk(Malformed):
    """The rows or the goals of a walk do not have their form."""

    def __init__(self, word):
        super().__init__(f"the {word} of the walk do not have their form")
        self.word = word


class BadRule(Malformed):
    """A part of a rule does not have its form."""

    def __init__(self, rule):
        super().__init__("this is no rule")
        self.rule = rule


class BadForm(Malformed):
    """A field of a form, or the whole, does not have its form."""

    def __init__(self, field):
        super().__init__(f"field {field} of the form does not have its form")
        self.field = field


class BadSlip(Malformed):
    """A slip of a hand, or the whole, does not have its form."""

    def __init__(self, slip):
        super().__init__(f"slip {slip} of the hand does not have its form")
        self.slip = slip


class BadWay(Malformed):
    """A station of a way, or the whole, does not have its form."""

    def __init__(self, station):
        super().__init__(f"station {station} of the way does not have its form")
        self.station = station


class BadNumber(Malformed):
    """No number of the series."""

    def __init__(self, paper):
        super().__init__("this is no number of the series")
        self.paper = paper


class BadCopying(Malformed):
    """No copying of the hand."""

    def __init__(self, copying):
        super().__init__("this is no copying of the hand")
        self.copying = copying


class BadSight(Malformed):
    """No sight of a way."""

    def __init__(self, sight):
        super().__init__("this is no sight of the way")
        self.sight = sight


class BadPoint(Malformed):
    """No point of a way."""

    def __init__(self, point):
        super().__init__("this is no point of the way")
        self.point = point


class BadGap(Malformed):
    """A gap, or the whole, does not have its form."""

    def __init__(self, gap):
        super().__init__(f"gap {gap} does not have its form")
        self.gap = gap


class BadMenu(Malformed):
    """A pair of a menu, or the whole, does not have its form."""

    def __init__(self, item):
        super().__init__(f"pair {item} of the menu does not have its form")
        self.item = item


class BadHeard(Malformed):
    """A pair of what can be heard, or the whole, does not have its form."""

    def __init__(self, item):
        super().__init__(f"pair {item} of what can be heard does not have its form")
        self.item = item


class BadAnswer(Malformed):
    """An answer that cannot come where it stands."""

    def __init__(self, answer):
        super().__init__(f"answer {answer} cannot come here")
        self.answer = answer


class BadDeed(Malformed):
    """A deed does not have its form."""

    def __init__(self, deed):
        super().__init__(f"deed {deed} does not have its form")
        self.deed = deed


class BadLine(Malformed):
    """A word of a line cannot stand where it stands."""

    def __init__(self, line, word):
        super().__init__(f"word {word} of line {line} cannot stand there")
        self.line = line
        self.word = word


class NoNumber(Refused):
    """A series has no such number, or not so many."""

    def __init__(self, number):
        super().__init__("there is no such number")
        self.number = number


class NoPlan(Refused):
    """The papers have no plan."""

    def __init__(self, papers):
        super().__init__(f"there is no plan for the {papers} papers")
        self.papers = papers


class NoBlock(Refused):
    """No number is set aside for a branch."""

    def __init__(self, branch):
        super().__init__("no number is set aside for the branch")
        self.branch = branch


class NotInForce(Refused):
    """A paper is no number that is in force."""

    def __init__(self, paper):
        super().__init__("this is no number in force")
        self.paper = paper


class NotVoid(Refused):
    """A paper is no number that was taken back."""

    def __init__(self, paper):
        super().__init__("this is no number that was taken back")
        self.paper = paper


class TooMany(CarryError):
    """There are more things of a kind than the program takes."""

    def __init__(self, what):
        super().__init__(f"too many: {what}")
        self.what = what


class Twice(CarryError):
    """A name, or a paper, stands twice."""

    def __init__(self, name):
        super().__init__("this stands twice")
        self.name = name


class Unknown(CarryError):
    """Nothing has this name."""

    def __init__(self, name):
        super().__init__("nothing has this name")
        self.name = name


class Unlike(CarryError):
    """Things that must be alike are not."""

    def __init__(self, what):
        super().__init__(f"unlike {what}")
        self.what = what


class Unfit(CarryError):
    """A thing does not fit what is asked of it."""

    def __init__(self, what):
        super().__init__(f"unfit {what}")
        self.what = what
