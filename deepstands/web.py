"""Standings by numbers, and what each happening does of each of them, found out as it is asked for.

Where one is refused is told as the word of the refusal: so what is told of a happening is a tuple of all that it says,
or that word."""

from deepstands.errors import Beyond, Endless, TooGreat
from deepstands.moment import Moment, before, what_of
from deepstands.plan import TICK
from deepstands.standings import key_of, standing_of

NOTHING_SAID = ()


class Web:
    """The standings of a plan's chart, 0 that of the begin, each as it is first come to or asked for; refused as the
    begin is. In marks the moves that fit a what that is taken are noted, where it is told."""

    def __init__(self, plan, marks=None):
        self.plan = plan
        self.marks = marks
        self.happenings = (*plan.happenings, "tick")
        self.whats = [what_of(happening) for happening in self.happenings]
        self.states = []
        # By their numbers the cells of standings, None where it was not asked for; by keys their numbers.
        self.rows = []
        self.numbers = {}
        # By their numbers the standing and the happening, both by numbers, from which they were first come to.
        self.came = []
        moment = Moment(plan, before(plan), marks)
        moment.begin()
        self.begin_told = tuple(moment.heard)
        self.begin_went = moment.went
        self.number_of(moment.state(), None)

    def number_of(self, state, came):
        """The number of a state."""
        key = key_of(state)
        number = self.numbers.get(key)
        if number is None:
            number = self.numbers[key] = len(self.states)
            self.states.append(state)
            self.rows.append([None for _ in self.whats])
            self.came.append(came)
        return number

    def cell(self, number, at):
        """What a happening, by its number, does of a standing: a tuple (told, went, behind), told what is told of it,
        went the moves chosen, tuples (number, k), behind the number of the standing behind it."""
        found = self.rows[number][at]
        if found is None:
            found = self.rows[number][at] = self.done_at(number, at)
        return found

    def done_at(self, number, at):
        """The same, found out."""
        state = self.states[number]
        what = self.whats[at]
        if not state[0].movers(what) and (what != TICK or not state[2]):
            return (NOTHING_SAID, (), number)
        moment = Moment(self.plan, state, self.marks)
        try:
            moment.run(what)
        except Beyond:
            return ("Beyond", tuple(moment.went), number)
        except Endless:
            return ("Endless", tuple(moment.went), number)
        return (tuple(moment.heard), tuple(moment.went), self.number_of(moment.state(), (number, at)))

    def go_through(self, most):
        """Goes from each standing that is come to by each happening; more than most are refused."""
        number = 0
        while number < len(self.states):
            for at in range(len(self.whats)):
                self.cell(number, at)
                if len(self.states) > most:
                    raise TooGreat(most)
            number += 1

    def standing_at(self, number):
        """The standing of a number."""
        return standing_of(self.plan, self.states[number])

    def all_standings(self):
        """All standings, in order."""
        return [standing_of(self.plan, state) for state in self.states]

    def all_tells(self):
        """What is told of each happening at each standing, once all was gone through."""
        return [tuple([told for told, _, _ in row]) for row in self.rows]

    def all_targets(self):
        """The numbers of the standings behind each happening at each standing, once all was gone through."""
        return [[behind for _, _, behind in row] for row in self.rows]

    def row_to(self, number):
        """The first row by which a standing is come to, as a list."""
        row = []
        while self.came[number] is not None:
            number, at = self.came[number]
            row.append(self.happenings[at])
        return row[::-1]

    def is_refused(self, number, at):
        """Whether a happening is refused at a standing."""
        return isinstance(self.cell(number, at)[0], str)


def web_of_all(plan, most):
    """The web of a plan's chart, gone through."""
    web = Web(plan)
    web.go_through(most)
    return web
