"""What a run goes by: the stands of a chart as numbers."""

from deepstands.kinds import MARKER_SORTS

TICK = ("tick",)


def what_of(name, when):
    """The what that a move of the named stand is by."""
    if when[0] == "on":
        return when
    return TICK if when[0] == "after" else ("done", name)


class Plan:
    """The stands of a chart by their numbers, 0 the root's, in the chart's order.

    All that stand within a stand have the numbers behind its own, up to a last one. A cell tells of one stand its
    name, its sort, the number of the stand that it stands straight in (None of the root), its into, out and moves."""

    def __init__(self, facts, happenings, cells):
        self.facts = facts
        self.happenings = happenings
        self.cells = cells
        self.spans = {name: (low, high) for name, low, high, _ in facts}
        self.names = [cell[0] for cell in cells]
        self.sorts = [cell[1] for cell in cells]
        self.above = [cell[2] for cell in cells]
        self.numbers = {name: number for number, name in enumerate(self.names)}
        self.last = self.last_within()
        # What stands straight in each stand, markers apart; by the numbers of ones their markers, and their ends.
        self.inner = [[] for _ in cells]
        self.markers = {}
        self.ends = {}
        self.place_all()
        # By whats the moves, tuples (number, k), in the up order; by the numbers of stands the greatest n of an after.
        self.movers = {}
        self.greatest = {}
        self.sort_moves()
        # The rooms and goals that were asked for: a run asks for the same ones often, a single step for few.
        self.ways = {}

    def last_within(self):
        """The last number within each stand, its own where it has none in it."""
        last = list(range(len(self.cells)))
        for number in range(len(last) - 1, 0, -1):
            above = self.above[number]
            last[above] = max(last[above], last[number])
        return last

    def place_all(self):
        """Notes what stands straight in each stand."""
        for number, above in enumerate(self.above):
            if above is None:
                continue
            if self.sorts[number] in MARKER_SORTS:
                self.markers.setdefault(above, []).append(number)
                continue
            self.inner[above].append(number)
            if self.sorts[number] == "end" and self.sorts[above] == "one":
                self.ends.setdefault(above, []).append(number)

    def sort_moves(self):
        """Notes the moves by what they are by."""
        movers = [number for number, cell in enumerate(self.cells) if cell[5]]
        # The up order: what ends first comes first, of those that end together the innermost.
        for number in sorted(movers, key=lambda mover: (self.last[mover], -mover)):
            name = self.names[number]
            for k, move in enumerate(self.cells[number][5]):
                when = move[0]
                self.movers.setdefault(what_of(name, when), []).append((number, k))
                if when[0] == "after":
                    self.greatest[number] = max(when[1], self.greatest.get(number, 0))

    def has(self, one, other):
        """Whether one has other properly in it."""
        return one < other <= self.last[one]

    def way(self, number, k):
        """The room of a move, None where it has no goals, and the numbers of these."""
        if (number, k) not in self.ways:
            goals = [self.numbers[name] for name in self.cells[number][5][k][3]]
            self.ways[(number, k)] = (self.room(number, goals) if goals else None, goals)
        return self.ways[(number, k)]

    def room(self, number, goals):
        """The least one that has the stand and all goals properly in it, else the root."""
        above = self.above[number]
        while above is not None:
            if self.sorts[above] == "one" and all([self.has(above, goal) for goal in goals]):
                return above
            above = self.above[above]
        return 0

    def knows_happening(self, thing):
        """Whether it is a happening of the chart, or tick."""
        return thing == "tick" or thing in self.happenings

    def knows_what(self, thing):
        """Whether it is a what."""
        if not isinstance(thing, tuple) or len(thing) != 2:
            return thing == TICK
        if thing[0] == "on":
            return thing[1] in self.happenings
        return thing[0] == "done" and thing[1] in [cell[0] for cell in self.cells if cell[1] == "one"]


def plan_of(chart, tree):
    """The plan of a chart with this tree."""
    numbers = {name: number for number, name in enumerate(tree.names)}
    cells = []
    for name, stand in tree.stands.items():
        path = tree.paths[name]
        above = numbers[path[-1]] if path else None
        cells.append((name, stand[1], above, stand[3], stand[4], stand[5]))
    return Plan(chart[0], chart[1], cells)
