"""What a Run and a Coded share: the way that a run has gone by a plan."""

from deepstands.choices import table_of
from deepstands.errors import NoBack, NoHappening
from deepstands.kinds import own
from deepstands.moment import begun, outcome_by, unrefused
from deepstands.plan import what_of
from deepstands.standings import standing_of


class Track:
    """The begin of a plan's chart and the steps made from there on. Of the begin, and of each step, it has a tuple of
    the code behind it and what it said."""

    def __init__(self, plan, opening, steps):
        self.plan = plan
        self.opening = opening
        self.steps = steps
        # By happenings the tables of their whats.
        self.tables = {}

    def present_code(self):
        """The code that it has come to."""
        return self.steps[-1][0] if self.steps else self.opening[0]

    def present(self):
        """The standing that it has come to."""
        return standing_of(self.plan, self.present_code())

    def table_for(self, happening):
        """The table of a happening's what; what is none is refused."""
        if not isinstance(happening, str) or not self.plan.knows_happening(happening):
            raise NoHappening(own(happening))
        found = self.tables[happening] = table_of(self.plan, what_of(happening))
        return found

    def go(self, happening):
        """Makes a step; told is what it said."""
        code = self.present_code()
        known = self.tables.get(happening) if isinstance(happening, str) else None
        entry = (known or self.table_for(happening)).entry(self.plan, code)
        said, _, raised, keep, enter = entry
        if raised:
            said, _, behind, _ = unrefused(outcome_by(self.plan, code, entry))
        else:
            behind = code & keep | enter
        self.steps.append((behind, said))
        return list(said)

    def all_heard(self):
        """What the begin said, and then each step."""
        return [list(heard) for _, heard in [self.opening] + self.steps]

    def undo(self):
        """Takes the last step back."""
        if not self.steps:
            raise NoBack()
        self.steps.pop()

    def twin(self):
        """Another one that went the same way."""
        return Track(self.plan, self.opening, list(self.steps))


class Copied:
    """What a run that is copied hands to the new one in the stead of a chart or a code: that, and its own track."""

    def __init__(self, whole, track):
        self.whole = whole
        self.track = track.twin()


def track_of(plan):
    """The track of a plan's chart, at its begin; refused as that is."""
    return Track(plan, begun(plan), [])
