"""A workshop: runs of a chart by their titles, and the chart changed under them."""

from deepstands.errors import NoBack, NoHappening, NoLead, NoRun, NoTitle, Taken
from deepstands.kinds import LETTERS, own
from deepstands.lead import Lead
from deepstands.moment import begun, stepped
from deepstands.plan import shared_plan_of, what_of
from deepstands.standings import standing_of
from deepstands.texts import read_chart

MOST_LETTERS = 8


def is_title(thing):
    """Whether it is one to eight small letters."""
    if not isinstance(thing, str) or not 1 <= len(thing) <= MOST_LETTERS:
        return False
    return all([sign in LETTERS for sign in thing])


class Page:
    """A text, its chart, and the plan of that."""

    def __init__(self, text):
        self.lines = list(text)
        self.whole = read_chart(self.lines)
        self.plan = shared_plan_of(self.whole)


class Line:
    """A run: the code that it has come to, and what was said at its begin and by each step."""

    def __init__(self, done):
        self.now, said = done
        self.heard = [said]


class Workshop:
    """A chart with its runs, and all that was done."""

    def __init__(self, text):
        self.page = Page(text)
        self.lines_by = {}
        # All deeds that weren't taken back, each with what it takes to take it back.
        self.done = []

    def line_of(self, title):
        """The run of a title."""
        if not isinstance(title, str) or title not in self.lines_by:
            raise NoRun(own(title))
        return self.lines_by[title]

    def start(self, title):
        """Begins a run; told is what its begin said."""
        if not is_title(title):
            raise NoTitle(own(title))
        if title in self.lines_by:
            raise Taken(title)
        line = Line(begun(self.page.plan))
        self.lines_by[title] = line
        self.done.append((("start", title), None))
        return list(line.heard[0])

    def tell(self, title, happening):
        """Does a step of a run; told is what it said."""
        line = self.line_of(title)
        if not self.page.plan.knows_happening(happening):
            raise NoHappening(own(happening))
        behind, said = stepped(self.page.plan, line.now, what_of(happening))
        deed = ("tick", title) if happening == "tick" else ("tell", title, happening)
        self.done.append((deed, line.now))
        line.now = behind
        line.heard.append(said)
        return list(said)

    def tick(self, title):
        """Does a tick of a run; told is what it said."""
        return self.tell(title, "tick")

    def standing(self, title):
        """The standing that a run has come to."""
        return standing_of(self.page.plan, self.line_of(title).now)

    def said(self, title):
        """What a run's begin said, and then each step, by whatever chart."""
        return [list(heard) for heard in self.line_of(title).heard]

    def edit(self, text, *, names=None):
        """Puts another text in the stead of the present one, and leads each run over by a dict of names."""
        page = Page(text)
        led = {}
        for title in self.titles():
            lead = Lead(self.page.plan, page.plan, self.lines_by[title].now, {} if names is None else names)
            led[title], wrong = lead.outcome()
            if wrong is not None:
                raise NoLead(title, wrong)
        ahead = {title: self.lines_by[title].now for title in led}
        self.done.append((("edit", len(page.lines)), (self.page, ahead)))
        self.put(page, led)

    def put(self, page, codes):
        """Has all runs go on by another text, from these codes by their titles."""
        self.page = page
        for title in codes:
            line = self.lines_by[title]
            line.now = codes[title]

    def stop(self, title):
        """Ends a run."""
        line = self.line_of(title)
        del self.lines_by[title]
        self.done.append((("stop", title), line))

    def back(self):
        """Takes the last deed back."""
        if not self.done:
            raise NoBack()
        deed, ahead = self.done.pop()
        if deed[0] == "edit":
            self.put(ahead[0], ahead[1])
        elif deed[0] == "start":
            del self.lines_by[deed[1]]
        elif deed[0] == "stop":
            self.lines_by[deed[1]] = ahead
        else:
            line = self.lines_by[deed[1]]
            line.now = ahead
            line.heard.pop()

    def text(self):
        """The present text."""
        return list(self.page.lines)

    def chart(self):
        """The present chart."""
        return self.page.whole

    def titles(self):
        """The titles of the runs, sorted."""
        return sorted(list(self.lines_by))

    def log(self):
        """All deeds that weren't taken back, in order."""
        return [deed for deed, _ in self.done]
