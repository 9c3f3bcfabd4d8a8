"""Made code: rows that tell all of a chart, their text, and runs by them alone."""

from deepstands.plan import plan_of
from deepstands.rows import plan_by, read_rows, row_text, rows_of
from deepstands.track import Copied, track_of


def code(chart):
    """The code of a chart."""
    return rows_of(plan_of(chart))


def code_text(code):
    """The text of a code."""
    return "\n".join([row_text(row) for row in code])


def read_code(text):
    """The code of which this is the text."""
    return read_rows(text)


class Coded:
    """A run by code, at the begin when it is made."""

    def __init__(self, code):
        is_copy = isinstance(code, Copied)
        self.whole = code.whole if is_copy else tuple(code)
        self.track = code.track if is_copy else track_of(plan_by(self.whole))

    def tell(self, happening):
        """Does a step by a happening, or tick; told is what it said."""
        return self.track.go(happening)

    def standing(self):
        """The standing that it has come to."""
        return self.track.present()

    def said(self):
        """What the begin said, and then each step."""
        return self.track.all_heard()

    def back(self):
        """Takes the last step back."""
        self.track.undo()

    def copy(self):
        """Another one that stands as this one, with its steps."""
        return Coded(Copied(self.whole, self.track))

    def __eq__(self, other):
        if not isinstance(other, Coded):
            return False
        return self.whole == other.whole and self.track.present() == other.track.present()

    def __len__(self):
        return len(self.track.steps)
