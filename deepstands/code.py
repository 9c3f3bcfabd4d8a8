"""Made code: rows that tell all of a chart, their text, and runs by them alone."""

from deepstands.charts import tree_of
from deepstands.errors import NoText
from deepstands.plan import plan_of
from deepstands.rows import HEAD, plan_by, row_of, row_text, rows_of
from deepstands.track import Track


def code(chart):
    """The code of a chart."""
    return rows_of(plan_of(chart, tree_of(chart)))


def code_text(code):
    """The text of a code."""
    return "\n".join([row_text(row) for row in code])


def read_code(text):
    """The code of which this is the text."""
    rows = [row_of(line) for line in text.split("\n")]
    if rows[0] != (HEAD, len(rows)):
        raise NoText(0, 0)
    return rows


class Coded:
    """A run by code, at the begin when it is made."""

    def __init__(self, code):
        self.rows = tuple(code)
        self.track = Track(plan_by(self.rows))

    def tell(self, happening):
        """Does a step by a happening, or tick; told is what it said."""
        return self.track.go(happening)

    def standing(self):
        """The standing that it has come to."""
        return self.track.present()

    def said(self):
        """What the begin said, and then each step."""
        return self.track.all_heard()

    def back(self):
        """Takes the last step back."""
        self.track.undo()

    def copy(self):
        """Another one that stands as this one, with its steps."""
        twin = Coded(self.rows)
        twin.track.follow(self.track)
        return twin

    def __eq__(self, other):
        if not isinstance(other, Coded):
            return False
        return self.rows == other.rows and self.track.present() == other.track.present()

    def __len__(self):
        return len(self.track.steps)
