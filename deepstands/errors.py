"""Every refusal. A field that is left out is None."""


class StandError(ValueError):
    """Any refusal."""


class Endless(StandError):
    """A step would take more inner whats than it may."""


class NoBack(StandError):
    """There is nothing to take back."""


class Unlike(StandError):
    """Two charts have not the same happenings."""


class NoNumber(StandError):
    """This is no number of a standing."""


class NoGoal(StandError):
    """This is no goal of the chart."""


class NoLine(StandError):
    """A desk knows no such line."""


class NoChart(StandError):
    """This is no chart."""

    def __init__(self, wrong=None):
        self.wrong = wrong


class NoStanding(StandError):
    """This is no standing of the chart."""

    def __init__(self, wrong=None):
        self.wrong = wrong


class NoHappening(StandError):
    """This is no happening, or no what, of the chart."""

    def __init__(self, what=None):
        self.what = what


class Beyond(StandError):
    """A fact would get a worth out of its span."""

    def __init__(self, fact=None, stand=None):
        self.fact = fact
        self.stand = stand


class NoText(StandError):
    """No text goes on like this; row and column count from 1."""

    def __init__(self, row=None, column=None):
        self.row = row
        self.column = column


class NoName(StandError):
    """No stand has this name."""

    def __init__(self, name=None):
        self.name = name


class NoMove(StandError):
    """The stand has no move of this number."""

    def __init__(self, number=None):
        self.number = number


class NoSaying(StandError):
    """This is no saying of the chart."""

    def __init__(self, wrong=None):
        self.wrong = wrong


class TooGreat(StandError):
    """There are more than were asked for."""

    def __init__(self, most=None):
        self.most = most


class Gone(StandError):
    """A stand that is stood in leads to none."""

    def __init__(self, name=None):
        self.name = name


class Apart(StandError):
    """Two stands lead to such as can't be stood in together."""

    def __init__(self, one=None, other=None):
        self.one = one
        self.other = other


class Moved(StandError):
    """A stand that is stood in leads to one that isn't stood in then."""

    def __init__(self, name=None):
        self.name = name


class NoTitle(StandError):
    """This is no title."""

    def __init__(self, title=None):
        self.title = title


class Taken(StandError):
    """There is a run of this title."""

    def __init__(self, title=None):
        self.title = title


class NoRun(StandError):
    """There is no run of this title."""

    def __init__(self, title=None):
        self.title = title


class NoLead(StandError):
    """A run can't be led to the new chart."""

    def __init__(self, title=None, wrong=None):
        self.title = title
        self.wrong = wrong
