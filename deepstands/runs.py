"""Runs: charts that are gone by."""

from deepstands.charts import tree_of
from deepstands.plan import plan_of
from deepstands.track import Track


class Run:
    """A run of a chart, at its begin when it is made."""

    def __init__(self, chart):
        self.whole = chart
        self.track = Track(plan_of(chart, tree_of(chart)))

    def tell(self, happening):
        """Does a step by a happening, or tick; told is what it said."""
        return self.track.go(happening)

    def standing(self):
        """The standing that it has come to."""
        return self.track.present()

    def said(self):
        """What the begin said, and then each step."""
        return self.track.all_heard()

    def back(self):
        """Takes the last step back."""
        self.track.undo()

    def copy(self):
        """Another one that stands as this one, with its steps."""
        twin = Run(self.whole)
        twin.track.follow(self.track)
        return twin

    def chart(self):
        """The chart."""
        return self.whole

    def __eq__(self, other):
        if not isinstance(other, Run):
            return False
        return self.whole == other.whole and self.track.present() == other.track.present()

    def __len__(self):
        return len(self.track.steps)
