"""What a chart does by rows of happenings, and whether trials and their cover are right. Nothing is known here of how
they were made."""

from deepstands.choices import table_of
from deepstands.goals import begin_comes_to, goal_of, goals_of
from deepstands.kinds import is_whole
from deepstands.moment import outcome_by, outcome_of_begin, unrefused
from deepstands.papers import has_truth, numbers_for
from deepstands.plan import what_of


class Going:
    """Rows of happenings, as a plan's chart is gone by from its begin, told what that says and its code."""

    def __init__(self, plan, told, code):
        self.plan = plan
        self.opening = ("told", list(told), plan.stood_at(code))
        self.code = code
        # By codes, and then by happenings, tuples (told, behind, went): what is told of a happening in a trial, the
        # code behind it, the addresses of the moves chosen; by happenings the tables of their whats.
        self.known = {code: {}}
        self.tables = {}

    def note(self, code, happening):
        """Notes a happening at a code; None where it is none."""
        plan = self.plan
        table = self.tables.get(happening)
        if table is None:
            if not plan.knows_happening(happening):
                return None
            table = self.tables[happening] = table_of(plan, what_of(happening))
        told, went, behind, _ = outcome_by(plan, code, table.entry(plan, code))
        told = ("refused", told) if isinstance(told, str) else ("told", list(told), plan.stood_at(behind))
        found = self.known[code][happening] = (told, behind, went)
        if behind not in self.known:
            self.known[behind] = {}
        return found

    def steps_by(self, row):
        """The same of each happening of a row, as far as they are happenings."""
        known = self.known
        found = []
        code = self.code
        for happening in row:
            if not isinstance(happening, str):
                return found
            step = known[code].get(happening) or self.note(code, happening)
            if step is None:
                return found
            found.append(step)
            code = step[1]
        return found

    def outcomes(self, row):
        """What the begin, and then each happening of a row, does, as far as they are happenings; not to be changed or
        handed out."""
        return [self.opening] + [told for told, _, _ in self.steps_by(row)]


def going_of(plan):
    """The rows of a plan's chart; refused as its begin is."""
    told, _, code, _ = unrefused(outcome_of_begin(plan))
    return Going(plan, told, code)


def own_outcomes(told):
    """Outcomes of which each has a list of its own."""
    return [("told", [*outcome[1]], outcome[2]) if len(outcome) == 3 else outcome for outcome in told]


def is_same(thing, wanted):
    """Whether a thing is the same as what is wanted, to which it is equal: a truth is no number."""
    if isinstance(wanted, (tuple, list)):
        return not [k for k, part in enumerate(wanted) if not is_same(thing[k], part)]
    return isinstance(thing, bool) == isinstance(wanted, bool)


def is_as_told(thing, wanted):
    """Whether what is told of a happening is what is wanted."""
    return thing == wanted and (not wanted[1] or is_same(thing[1], wanted[1]))


def outcome_wrong(going, row, told):
    """The first number at which the chart doesn't do what is told of the begin and of a row, and how; None where it
    does all."""
    outcomes = going.outcomes(row)
    for k, (thing, wanted) in enumerate(zip(told, outcomes)):
        # Most say nothing.
        if thing == wanted and not wanted[1] or is_as_told(thing, wanted):
            continue
        if thing[0] != wanted[0] or wanted[0] == "refused" and thing[1] != wanted[1]:
            return (k, "told")
        if wanted[0] == "told" and (thing[1] != wanted[1] or not is_same(thing[1], wanted[1])):
            return (k, "said")
        if wanted[0] == "told" and thing[2] != wanted[2]:
            return (k, "stood")
    # By what is no happening the chart does nothing, whatever is told.
    return (len(outcomes), "told") if len(outcomes) < len(told) else None


def is_right_trial(going, trial):
    """Whether a thing is a trial that tells just what the chart does."""
    if not isinstance(trial, tuple) or len(trial) != 2 or not isinstance(trial[0], list):
        return False
    row, told = trial
    wanted = going.outcomes(row)
    if len(wanted) <= len(row) or told != wanted:
        return False
    return not [k for k, thing in enumerate(told) if not is_as_told(thing, wanted[k])]


def trials_wrong(going, some):
    """The first trial that is wrong."""
    if not isinstance(some, list):
        return ("trials", 0)
    for t, trial in enumerate(some):
        if not is_right_trial(going, trial):
            return ("trials", t)
    return None


def are_covered(plan, goals, cover):
    """Whether a thing is a list of tuples of two that begin with the goals, in order."""
    if not isinstance(cover, list) or len(cover) != len(goals):
        return False
    for goal, pair in zip(goals, cover):
        if not isinstance(pair, tuple) or len(pair) != 2 or goal_of(plan, pair[0]) != goal:
            return False
    return True


class Seen:
    """The standings of a paper that shows that a goal is come to by nothing. Most of a cover's papers have the same
    ones again, so what was found of these last is there for the next paper."""

    def __init__(self, web):
        self.web = web
        self.things = None
        # Whether they show anything at all, and all goals that happenings from them come to.
        self.is_closed = False
        self.reached = {}

    def look_at(self, things):
        """Looks at what may be a list of standings."""
        if self.things is not None and things == self.things and not [x for x in things if has_truth(x)]:
            return
        numbers = numbers_for(self.web, things)
        self.things = None if numbers is None else list(things)
        self.is_closed = numbers is not None and 0 in numbers
        self.reached = {}
        there = {number: True for number in numbers or ()}
        for number in there:
            for at in range(len(self.web.happenings)):
                told, went, behind = self.web.cell(number, at)
                self.is_closed = self.is_closed and behind in there
                if not isinstance(told, str):
                    for goal in [*went, *[(name, None) for name in self.web.stood_at(behind)]]:
                        self.reached[goal] = True

    def shows_none(self, goal, things):
        """Whether a thing is a closed list of standings that shows that nothing comes to a goal."""
        self.look_at(things)
        return self.is_closed and goal not in self.reached and not begin_comes_to(self.web, goal)


def step_comes_to(plan, step, goal):
    """Whether the happening that makes a step comes to a goal."""
    told, behind, went = step
    if told[0] == "refused":
        return False
    return goal[0] in plan.stood_at(behind) if goal[1] is None else goal in went


def is_by_right(web, ways, goal, paper):
    """Whether a thing shows where a goal is come to; ways are the steps of the trials' rows."""
    if not isinstance(paper, tuple) or len(paper) != 3 or paper[0] != "by":
        return False
    _, t, k = paper
    if not is_whole(t) or not is_whole(k) or not 0 <= t < len(ways) or not 0 <= k <= len(ways[t]):
        return False
    return begin_comes_to(web, goal) if k == 0 else step_comes_to(web.plan, ways[t][k - 1], goal)


def cover_fault(web, some, cover):
    """What is wrong first with trials and their cover, None where they are right."""
    going = Going(web.plan, web.begin_told, web.codes[0])
    wrong = trials_wrong(going, some)
    if wrong is not None:
        return wrong
    goals = goals_of(web.plan)
    if not are_covered(web.plan, goals, cover):
        return ("goals",)
    ways = [going.steps_by(trial[0]) for trial in some]
    seen = Seen(web)
    for k, goal in enumerate(goals):
        paper = cover[k][1]
        if isinstance(paper, tuple) and len(paper) == 2 and paper[0] == "none":
            if not seen.shows_none(goal, paper[1]):
                return ("none", k)
        elif not is_by_right(web, ways, goal, paper):
            return ("by", k)
    return None
