"""A step under way: whats are taken, moves chosen and done.

A state is a tuple (scene, worths, ages, kept): the scene of what is stood in, the worths by the facts' names in the
facts' order, the ages by numbers in the chart's order, tuples of numbers by the numbers of markers. It is never
changed, nor are the dicts in it: what gets another worth is another dict."""

from deepstands.errors import Beyond, Endless
from deepstands.plan import TICK
from deepstands.standings import key_of
from deepstands.terms import holds, worth_of
from deepstands.turns import Beginning

MOST_INNER = 50
# Up to so many it isn't asked whether they come again.
FEW_INNER = 4


class Moment:
    """A step under way from a state on; a refused one is left as it is, and goes on no more."""

    def __init__(self, plan, state, marks=None):
        self.plan = plan
        self.scene, self.worths, self.ages, self.kept = state
        # Inner whats that are still to be taken, what was said, all moves that were chosen, and of each what taken
        # (what, chosen, left, entered).
        self.waiting = []
        self.heard = []
        self.went = []
        self.taken = []
        # Where the moves that fit are noted, None where they needn't be.
        self.marks = marks

    def state(self):
        """The state that it has come to."""
        return (self.scene, self.worths, self.ages, self.kept)

    def fitting(self, what):
        """All moves that fit, tuples (number, k), in the up order."""
        names, worths, ages = self.scene.names, self.worths, self.ages
        return [
            (number, k) for number, k, wait, guard in self.scene.movers(what)
            if (wait == 0 or ages[number] == wait) and (guard is None or holds(guard, names, worths))
        ]

    def chosen(self, what):
        """The moves that are chosen, tuples (number, k), as they are."""
        names, worths, ages = self.scene.names, self.worths, self.ages
        picked = []
        tried = None
        for number, k, wait, guard in self.scene.movers(what):
            # The moves of a stand stand together: behind one that fits no other one is tried.
            if number == tried or wait != 0 and ages[number] != wait:
                continue
            if guard is None or holds(guard, names, worths):
                tried = number
                if not picked or self.is_free(number, k, picked):
                    picked.append((number, k))
        return picked

    def is_free(self, number, k, picked):
        """Whether none of those picked ahead stands within the move's stand, or leaves what the move would leave."""
        has = self.plan.tree.has
        room = self.plan.way(number, k)[0]
        for ahead, j in picked:
            if has(number, ahead):
                return False
            other = self.plan.way(ahead, j)[0]
            if room is not None and other is not None:
                if room == other or has(room, other) or has(other, room):
                    return False
        return True

    def take(self, what):
        """Takes a what: its moves are chosen and done."""
        picked = self.chosen(what)
        if self.marks is not None:
            for address in self.fitting(what):
                self.marks[address] = True
        self.went.extend(picked)
        left, entered = self.do_moves(picked) if picked else ((), ())
        self.taken.append((what, picked, left, entered))

    def do_moves(self, picked):
        """Does moves; told is what was left and what was entered, as it was."""
        plan = self.plan
        turn = self.scene.turn(picked, self.kept)
        if turn is not None:
            if turn.keeps:
                self.kept = {**self.kept, **turn.keeps}
            for number, deeds in turn.outs:
                self.do_all(number, deeds)
        for number, k in picked:
            deeds = plan.stands[number][5][k][2]
            if deeds:
                self.do_all(number, plan.read_deeds(deeds))
        if turn is None:
            return (), ()
        self.enter(turn)
        return turn.left, turn.entered

    def enter(self, turn):
        """Enters what is entered in a turn."""
        self.scene = turn.target
        ages = self.ages
        self.ages = {number: 0 if number in turn.entered else ages[number] for number in self.scene.aging}
        for number, deeds, what in turn.intos:
            self.do_all(number, deeds)
            if what is not None:
                self.waiting.append(what)

    def do_all(self, number, deeds):
        """Does deeds of a stand."""
        for deed in deeds:
            if deed[0] == "raise":
                self.waiting.append(("on", deed[1]))
                continue
            fact = deed[1]
            worth = worth_of(deed[2], self.worths)
            if deed[0] == "say":
                self.heard.append((fact, worth))
                continue
            low, high = self.plan.spans[fact]
            if not low <= worth <= high:
                raise Beyond(fact, self.plan.names[number])
            self.worths = {**self.worths, fact: worth}

    def grow(self):
        """Lets the ages grow by one."""
        greatest = self.plan.tree.greatest
        self.ages = {number: min(age, greatest[number]) + 1 for number, age in self.ages.items()}

    def run(self, what):
        """Takes a what, and then the inner ones, till there are none."""
        if what == TICK and self.ages:
            self.grow()
        self.take(what)
        self.finish()

    def finish(self):
        """Takes the inner whats, till there are none."""
        many = 0
        seen = {}
        while self.waiting:
            many += 1
            if many > MOST_INNER:
                raise Endless()
            # What comes again will come again and again: all that would be chosen up to the last one was chosen.
            if many > FEW_INNER:
                key = (key_of(self.state()), tuple(self.waiting))
                if key in seen:
                    raise Endless()
                seen[key] = True
            self.take(self.waiting.pop(0))

    def begin(self):
        """Enters the root, and takes the inner whats."""
        turn = Beginning(self.plan)
        self.enter(turn)
        self.taken.append((("start",), (), (), turn.entered))
        self.finish()


def what_of(happening):
    """The what that a happening, or tick, is."""
    return TICK if happening == "tick" else ("on", happening)


def before(plan):
    """The state ahead of the begin: nothing is stood in."""
    return (plan.scene_of(()), plan.first_worths(), {}, {})


def begun(plan):
    """The begin of a plan's chart, done."""
    moment = Moment(plan, before(plan))
    moment.begin()
    return moment


def stepped(plan, state, happening):
    """A step from a state, done; the happening is one, or tick."""
    moment = Moment(plan, state)
    moment.run(what_of(happening))
    return moment
