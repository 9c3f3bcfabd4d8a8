"""A step under way: whats are taken, moves chosen and done.

A state is a tuple (stood, worths, ages, kept): the numbers of the stands stood in, rising, the worths by the facts'
names in the facts' order, the ages by numbers, tuples of numbers by the numbers of markers. It is never changed."""

from deepstands.errors import Beyond, Endless
from deepstands.plan import TICK
from deepstands.terms import holds, worth_of

MOST_INNER = 50


class Moment:
    """A step under way from a state on; a refused one is left as it is, and used no more."""

    def __init__(self, plan, state):
        stood, worths, ages, kept = state
        self.plan = plan
        self.stood = stood
        self.worths = dict(worths)
        self.ages = dict(ages)
        self.kept = dict(kept)
        # Inner whats that are still to be taken, what was said, and of each what taken (what, chosen, left, entered).
        self.waiting = []
        self.heard = []
        self.taken = []

    def state(self):
        """The state that it has come to."""
        return (self.stood, self.worths, self.ages, self.kept)

    def fitting(self, what):
        """All moves that fit, tuples (number, k), in the up order."""
        plan = self.plan
        if what not in plan.movers:
            return []
        names = [plan.names[number] for number in self.stood]
        found = []
        for number, k in plan.movers[what]:
            if number not in self.stood:
                continue
            when, guard = plan.cells[number][5][k][:2]
            if when[0] == "after" and self.ages[number] != when[1]:
                continue
            if when[0] == "done" and not self.is_at_end(number):
                continue
            if holds(guard, names, self.worths):
                found.append((number, k))
        return found

    def is_at_end(self, number):
        """Whether an end straight in the stand is stood in."""
        for end in self.plan.ends.get(number, ()):
            if end in self.stood:
                return True
        return False

    def chosen(self, what):
        """The moves that are chosen, tuples (number, k), as they are."""
        picked = []
        tried = []
        for number, k in self.fitting(what):
            if number not in tried:
                tried.append(number)
                if self.is_free(number, k, picked):
                    picked.append((number, k))
        return picked

    def is_free(self, number, k, picked):
        """Whether none of those picked ahead stands within the move's stand, or leaves what the move would leave."""
        plan = self.plan
        room = plan.way(number, k)[0]
        for ahead, j in picked:
            if plan.has(number, ahead):
                return False
            other = plan.way(ahead, j)[0]
            if room is not None and other is not None:
                if room == other or plan.has(room, other) or plan.has(other, room):
                    return False
        return True

    def take(self, what):
        """Takes a what: its moves are chosen and done."""
        plan = self.plan
        picked = self.chosen(what)
        ways = [plan.way(number, k) for number, k in picked]
        left = self.leave([room for room, goals in ways if goals])
        for number, k in picked:
            self.do_all(number, plan.cells[number][5][k][2])
        entered = self.enter(self.entries([(room, goals) for room, goals in ways if goals]))
        self.taken.append((what, picked, left, entered))

    def leave(self, rooms):
        """Leaves all that is stood in within rooms, of which none is within another one; told is what was left, as it
        was."""
        plan = self.plan
        left = []
        for room in rooms:
            left.extend([number for number in self.stood if plan.has(room, number)])
        for number in left:
            for marker in plan.markers.get(number, ()):
                self.keep(number, marker)
        self.stood = [number for number in self.stood if number not in left]
        # The back order.
        left = sorted(left, reverse=True)
        for number in left:
            if number in self.ages:
                del self.ages[number]
            self.do_all(number, plan.cells[number][4])
        return left

    def keep(self, one, marker):
        """Has a marker keep what is stood in within its one."""
        plan = self.plan
        within = [number for number in self.stood if plan.has(one, number)]
        if plan.sorts[marker] == "back":
            within = [number for number in within if plan.above[number] == one]
        self.kept[marker] = tuple(within)

    def entries(self, ways):
        """What is entered by moves with goals, these by their rooms and goals, in the chart's order."""
        found = []
        for room, goals in ways:
            found.extend(self.inside(room, self.wanted(room, goals)))
        return sorted(found)

    def wanted(self, room, goals):
        """What goals have entered, whatever else is: themselves and all between them and the room, and what a marker
        keeps."""
        found = {}
        for goal in goals:
            for number in self.kept.get(goal, ()):
                found[number] = True
            # Of a marker it is found, too, but what is entered in its one is looked for among other stands.
            target = goal
            while target != room:
                found[target] = True
                target = self.plan.above[target]
        return found

    def inside(self, top, wanted):
        """What is entered within a stand that is entered, or is a room."""
        plan = self.plan
        found = []
        opened = [top]
        while opened:
            number = opened.pop()
            inner = plan.inner[number]
            if plan.sorts[number] == "one":
                # A one has one of them wanted at most; else its first is entered.
                inner = [k for k in inner if k in wanted] or inner[:1]
            found.extend(inner)
            opened.extend(inner)
        return found

    def enter(self, numbers):
        """Enters stands, which are in the chart's order; told is what was entered."""
        plan = self.plan
        self.stood = sorted(self.stood + numbers) if numbers else self.stood
        for number in numbers:
            if number in plan.greatest:
                self.ages[number] = 0
            self.do_all(number, plan.cells[number][3])
            above = plan.above[number]
            if number in plan.ends.get(above, ()):
                self.waiting.append(("done", plan.names[above]))
        return numbers

    def do_all(self, number, deeds):
        """Does deeds of a stand."""
        for deed in deeds:
            if deed[0] == "raise":
                self.waiting.append(("on", deed[1]))
                continue
            fact = deed[1]
            worth = worth_of(deed[2], self.worths)
            if deed[0] == "say":
                self.heard.append((fact, worth))
                continue
            low, high = self.plan.spans[fact]
            if not low <= worth <= high:
                raise Beyond(fact, self.plan.names[number])
            self.worths[fact] = worth

    def grow(self):
        """Lets the ages grow by one."""
        for number in list(self.ages):
            self.ages[number] = min(self.ages[number], self.plan.greatest[number]) + 1

    def finish(self):
        """Takes the inner whats, till there are none."""
        many = 0
        while self.waiting:
            many += 1
            if many > MOST_INNER:
                raise Endless()
            self.take(self.waiting.pop(0))


def begun(plan):
    """The begin of a plan's chart, done."""
    worths = {name: first for name, _, _, first in plan.facts}
    moment = Moment(plan, ([], worths, {}, {}))
    entered = moment.enter(sorted([0] + moment.inside(0, {})))
    moment.taken.append((("start",), [], [], entered))
    moment.finish()
    return moment


def stepped(plan, state, happening):
    """A step from a state, done; the happening is one, or tick."""
    moment = Moment(plan, state)
    if happening == "tick":
        moment.grow()
        moment.take(TICK)
    else:
        moment.take(("on", happening))
    moment.finish()
    return moment
