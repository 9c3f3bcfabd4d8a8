"""Runs: charts that are gone by."""

from deepstands.plan import shared_plan_of
from deepstands.track import Copied, track_of


class Run:
    """A run of a chart, at its begin when it is made."""

    def __init__(self, chart):
        is_copy = isinstance(chart, Copied)
        self.whole = chart.whole if is_copy else chart
        self.track = chart.track if is_copy else track_of(shared_plan_of(chart))

    def tell(self, happening):
        """Does a step by a happening, or tick; told is what it said."""
        return self.track.go(happening)

    def standing(self):
        """The standing that it has come to."""
        return self.track.present()

    def said(self):
        """What the begin said, and then each step."""
        return self.track.all_heard()

    def back(self):
        """Takes the last step back."""
        self.track.undo()

    def copy(self):
        """Another one that stands as this one, with its steps."""
        return Run(Copied(self.whole, self.track))

    def chart(self):
        """The chart."""
        return self.whole

    def __eq__(self, other):
        if not isinstance(other, Run):
            return False
        return self.whole == other.whole and self.track.present() == other.track.present()

    def __len__(self):
        return len(self.track.steps)
