"""Standings by numbers, and what each happening does of each of them, found out as it is asked for.

Where one is refused is told as the word of the refusal: so what is told of a happening is a tuple of all that it says,
or that word. A cell is a tuple (told, went, behind): what is told of a happening at a standing, the addresses of the
moves chosen, and the number of the standing behind it."""

from deepstands.choices import table_of
from deepstands.errors import TooGreat
from deepstands.moment import outcome_by, outcome_of_begin, unrefused
from deepstands.plan import what_of
from deepstands.standings import standing_of


class Web:
    """The standings of a plan's chart, 0 that of the begin, each as it is first come to or asked for; refused as the
    begin is."""

    def __init__(self, plan):
        self.plan = plan
        self.happenings = (*plan.happenings, "tick")
        self.tables = [table_of(plan, what_of(happening)) for happening in self.happenings]
        self.looks = [(at, table.relevant, table.choices, table) for at, table in enumerate(self.tables)]
        self.codes = []
        # By their numbers the cells of standings, by happenings, none where they were not asked for; those that were
        # asked for one by one, by (number, happening); by codes their numbers.
        self.rows = []
        self.singles = {}
        self.numbers = {}
        # By their numbers the standing and the happening, both by numbers, from which they were first come to.
        self.came = []
        told, went, code, _ = unrefused(outcome_of_begin(plan))
        self.begin_told = told
        self.begin_went = went
        self.number_of(code, None)

    def number_of(self, code, came):
        """The number of a code."""
        number = self.numbers.get(code)
        if number is None:
            number = self.numbers[code] = len(self.codes)
            self.codes.append(code)
            self.rows.append([])
            self.came.append(came)
        return number

    def cells(self, number):
        """The cells of a standing, by happenings."""
        row = self.rows[number]
        if not row:
            plan, numbers = self.plan, self.numbers
            code = self.codes[number]
            for at, relevant, choices, table in self.looks:
                choice = choices.get(code & relevant) or table.choice_at(plan, code)
                entry = choice.fixed or choice.entry(plan, code)
                told, went, raised, keep, enter = entry
                behind = code & keep | enter
                if raised:
                    told, went, behind, _ = outcome_by(plan, code, entry)
                there = numbers.get(behind)
                row.append((told, went, self.number_of(behind, (number, at)) if there is None else there))
        return row

    def cell(self, number, at):
        """What a happening, by its number, does of a standing."""
        if self.rows[number]:
            return self.rows[number][at]
        found = self.singles.get((number, at))
        if found is None:
            code = self.codes[number]
            told, went, behind, _ = outcome_by(self.plan, code, self.tables[at].entry(self.plan, code))
            found = self.singles[(number, at)] = (told, went, self.number_of(behind, (number, at)))
        return found

    def go_through(self, most):
        """Goes from each standing that is come to by each happening; more than most are refused."""
        number = 0
        while number < len(self.codes):
            self.cells(number)
            if len(self.codes) > most:
                raise TooGreat(most)
            number += 1

    def stood_at(self, number):
        """The names of what is stood in at a standing."""
        return self.plan.stood_at(self.codes[number])

    def firsts(self):
        """Of all at which the same is stood in the number of the first, of each such."""
        stood_bits = self.plan.stood_bits
        found = {}
        for number, code in enumerate(self.codes):
            found.setdefault(code & stood_bits, number)
        return list(found.values())

    def standing_at(self, number):
        """The standing of a number."""
        return standing_of(self.plan, self.codes[number])

    def all_standings(self):
        """All standings, in order."""
        return [standing_of(self.plan, code) for code in self.codes]

    def all_tells(self):
        """What is told of each happening at each standing, once all was gone through."""
        return [tuple([told for told, _, _ in row]) for row in self.rows]

    def all_targets(self):
        """The numbers of the standings behind each happening at each standing, once all was gone through."""
        return [[behind for _, _, behind in row] for row in self.rows]

    def row_to(self, number):
        """The first row of happenings by which a standing is come to, as a list."""
        row = []
        while self.came[number] is not None:
            number, at = self.came[number]
            row.append(self.happenings[at])
        return row[::-1]


def web_of_all(plan, most):
    """The web of a plan's chart, gone through."""
    web = Web(plan)
    web.go_through(most)
    return web
