"""What a Run and a Coded share: the way that a run has gone by a plan."""

from deepstands.errors import NoBack, NoHappening
from deepstands.kinds import own
from deepstands.moment import begun, stepped
from deepstands.standings import standing_of


class Track:
    """The begin of a plan's chart and the steps made from there on."""

    def __init__(self, plan):
        moment = begun(plan)
        self.plan = plan
        # Of the begin, and of each step, the state behind it and what it said.
        self.begin = (moment.state(), moment.heard)
        self.steps = []

    def state(self):
        """The state that it has come to."""
        return self.steps[-1][0] if self.steps else self.begin[0]

    def present(self):
        """The standing that it has come to."""
        return standing_of(self.plan, self.state())

    def go(self, happening):
        """Makes a step; told is what it said."""
        if not self.plan.knows_happening(happening):
            raise NoHappening(own(happening))
        moment = stepped(self.plan, self.state(), happening)
        self.steps.append((moment.state(), moment.heard))
        return list(moment.heard)

    def all_heard(self):
        """What the begin said, and then each step."""
        return [list(heard) for _, heard in [self.begin] + self.steps]

    def undo(self):
        """Takes the last step back."""
        if not self.steps:
            raise NoBack()
        self.steps.pop()

    def follow(self, other):
        """Goes the way that another one of the same plan went."""
        self.steps = list(other.steps)
