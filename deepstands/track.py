"""What a Run and a Coded share: the way that a run has gone by a plan."""

from deepstands.errors import NoBack, NoHappening
from deepstands.kinds import own
from deepstands.moment import begun, stepped
from deepstands.standings import standing_of


class Track:
    """The begin of a plan's chart and the steps made from there on. Of the begin, and of each step, it has the state
    behind it and what it said."""

    def __init__(self, plan, opening, steps):
        self.plan = plan
        self.opening = opening
        self.steps = steps

    def state(self):
        """The state that it has come to."""
        return self.steps[-1][0] if self.steps else self.opening[0]

    def present(self):
        """The standing that it has come to."""
        return standing_of(self.plan, self.state())

    def go(self, happening):
        """Makes a step; told is what it said."""
        if not self.plan.knows_happening(happening):
            raise NoHappening(own(happening))
        moment = stepped(self.plan, self.state(), happening)
        self.steps.append((moment.state(), moment.heard))
        return list(moment.heard)

    def all_heard(self):
        """What the begin said, and then each step."""
        return [list(heard) for _, heard in [self.opening] + self.steps]

    def undo(self):
        """Takes the last step back."""
        if not self.steps:
            raise NoBack()
        self.steps.pop()

    def twin(self):
        """Another one that went the same way."""
        return Track(self.plan, self.opening, list(self.steps))


class Copied:
    """What a run that is copied hands to the new one in the stead of a chart or a code: that, and its own track."""

    def __init__(self, whole, track):
        self.whole = whole
        self.track = track.twin()


def track_of(plan):
    """The track of a plan's chart, at its begin; refused as that is."""
    moment = begun(plan)
    return Track(plan, (moment.state(), moment.heard), [])
