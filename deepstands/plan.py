"""What a run goes by: a chart's stands by their numbers, and what is found out about them as a run goes."""

from deepstands.charts import tree_of
from deepstands.kinds import MARKER_SORTS
from deepstands.parts import DONE, YES
from deepstands.turns import Turn

TICK = ("tick",)


class Plan:
    """A chart to go by. What isn't asked for isn't found out: a single step asks for little of it, a run, and all who
    go through many standings, for the same again and again."""

    def __init__(self, facts, happenings, tree):
        self.facts = facts
        self.happenings = happenings
        self.tree = tree
        self.names = tree.names
        self.stands = tree.stands
        self.numbers = tree.numbers
        self.spans = {name: (low, high) for name, low, high, _ in facts}
        # By the numbers of stands the stands straight in them, markers apart; by moves their rooms and goals; by what
        # is stood in the scenes.
        self.plain_inner = {}
        self.ways = {}
        self.scenes = {}

    def read_guard(self, part):
        """The guard of a move, None where it always holds."""
        return None if part == YES else part

    def read_deeds(self, part):
        """The deeds of a stand or of a move."""
        return part

    def inner(self, number):
        """The numbers of the stands straight in a stand, markers apart."""
        found = self.plain_inner.get(number)
        if found is None:
            found = []
            last = self.tree.last
            inner = number + 1
            while inner <= last[number]:
                if self.stands[inner][1] not in MARKER_SORTS:
                    found.append(inner)
                inner = last[inner] + 1
            self.plain_inner[number] = found
        return found

    def way(self, number, k):
        """The room of a move, None where it has no goals, and the numbers of these."""
        found = self.ways.get((number, k))
        if found is None:
            goals = [self.numbers[name] for name in self.stands[number][5][k][3]]
            found = (self.tree.room(number, goals) if goals else None, goals)
            self.ways[(number, k)] = found
        return found

    def scene_of(self, stood):
        """The scene of what is stood in, a tuple of numbers in order."""
        found = self.scenes.get(stood)
        if found is None:
            found = self.scenes[stood] = Scene(self, stood)
        return found

    def first_worths(self):
        """The worths of the facts at the begin."""
        return {name: first for name, _, _, first in self.facts}

    def knows_happening(self, thing):
        """Whether it is a happening of the chart, or tick."""
        return thing == "tick" or thing in self.happenings

    def knows_what(self, thing):
        """Whether it is a what."""
        if not isinstance(thing, tuple) or len(thing) != 2:
            return thing == TICK
        if thing[0] == "on":
            return thing[1] in self.happenings
        return thing[0] == "done" and self.tree.knows(thing[1]) and self.stands[self.numbers[thing[1]]][1] == "one"


class Scene:
    """What is stood in at one time. A plan has one for each such, so two are the same just where they are one."""

    def __init__(self, plan, stood):
        self.plan = plan
        self.stood = stood
        self.names = tuple([plan.names[number] for number in stood])
        # Those that have an age.
        greatest = plan.tree.greatest
        self.aging = [number for number in stood if number in greatest] if greatest else []
        # By whats the moves that are by these, of what is stood in; by moves that are chosen what they do.
        self.moves_known = {}
        self.turns = {}

    def movers(self, what):
        """The moves of what is stood in by a what, in the up order: tuples (number, k, n, guard), n that of an after,
        else 0, guard None where it always holds."""
        found = self.moves_known.get(what)
        if found is None:
            found = self.moves_known[what] = self.moves_by(what)
        return found

    def moves_by(self, what):
        """The same, looked for."""
        plan = self.plan
        stands = plan.stands
        found = []
        if what[0] == "on":
            for number in self.stood:
                for k, move in enumerate(stands[number][5]):
                    if move[0] == what:
                        found.append((number, k, 0, plan.read_guard(move[1])))
        elif what == TICK:
            for number in self.aging:
                for k, move in enumerate(stands[number][5]):
                    if move[0][0] == "after":
                        found.append((number, k, move[0][1], plan.read_guard(move[1])))
        elif self.is_at_end(plan.numbers[what[1]]):
            number = plan.numbers[what[1]]
            for k, move in enumerate(stands[number][5]):
                if move[0] == DONE:
                    found.append((number, k, 0, plan.read_guard(move[1])))
        last = plan.tree.last
        # What ends first comes first, of those that end together the innermost.
        return sorted(found, key=lambda mover: (last[mover[0]], -mover[0], mover[1])) if len(found) > 1 else found

    def turn(self, picked, kept):
        """What those with goals do of the moves (number, k) that are chosen, None where none has any; kept as in a
        state."""
        plan = self.plan
        key = tuple(picked)
        if plan.tree.markers:
            key = (key, tuple([kept.get(goal) for number, k in picked for goal in plan.way(number, k)[1]]))
        if key not in self.turns:
            ways = [plan.way(number, k) for number, k in picked]
            ways = [way for way in ways if way[1]]
            self.turns[key] = Turn(plan, self, ways, kept) if ways else None
        return self.turns[key]

    def is_at_end(self, number):
        """Whether a stand is stood in, and an end straight in it."""
        if number in self.stood:
            for inner in self.plan.inner(number):
                if self.plan.stands[inner][1] == "end" and inner in self.stood:
                    return True
        return False


def plan_of(chart):
    """The plan of a chart; what is none is refused."""
    tree = tree_of(chart)
    return Plan(chart[0], chart[1], tree)
