"""What a chart does by rows of happenings, and whether trials and their cover are right. Nothing is known here of how
they were made."""

from deepstands.goals import begin_comes_to, cell_comes_to, goal_of, goals_of
from deepstands.kinds import is_whole
from deepstands.papers import has_truth, numbers_for


def strange_in(web, row):
    """The number of the first thing of a row that is no happening, None where all are."""
    for k, thing in enumerate(row):
        if not web.plan.knows_happening(thing):
            return k
    return None


def way_by(web, row):
    """The cells of a row's happenings, as it is gone by from the begin."""
    cells = []
    number = 0
    for happening in row:
        cells.append(web.cell(number, web.happenings.index(happening)))
        number = cells[-1][2]
    return cells


def outcome(web, told, behind):
    """What is told of a happening in a trial."""
    if isinstance(told, str):
        return ("refused", told)
    return ("told", list(told), web.states[behind][0].names)


def outcomes(web, row):
    """What the begin, and then each happening of a row, does."""
    begin = outcome(web, web.begin_told, 0)
    return [begin] + [outcome(web, told, behind) for told, _, behind in way_by(web, row)]


def is_same(thing, wanted):
    """Whether a thing is the same as what is wanted: a truth is no number."""
    if isinstance(wanted, (tuple, list)):
        return thing == wanted and not [k for k, part in enumerate(wanted) if not is_same(thing[k], part)]
    return thing == wanted and isinstance(thing, bool) == isinstance(wanted, bool)


def outcome_wrong(web, row, told):
    """The first number at which the chart doesn't do what is told of the begin and of a row, and how; None where it
    does all."""
    for k, (thing, wanted) in enumerate(zip(told, outcomes(web, row))):
        if thing[0] != wanted[0] or wanted[0] == "refused" and thing[1] != wanted[1]:
            return (k, "told")
        if wanted[0] == "told" and not is_same(thing[1], wanted[1]):
            return (k, "said")
        if wanted[0] == "told" and thing[2] != wanted[2]:
            return (k, "stood")
    return None


def is_right_trial(web, trial):
    """Whether a thing is a trial that tells just what the chart does."""
    if not isinstance(trial, tuple) or len(trial) != 2 or not isinstance(trial[0], list):
        return False
    return strange_in(web, trial[0]) is None and is_same(trial[1], outcomes(web, trial[0]))


def trials_wrong(web, some):
    """The first trial that is wrong."""
    if not isinstance(some, list):
        return ("trials", 0)
    for t, trial in enumerate(some):
        if not is_right_trial(web, trial):
            return ("trials", t)
    return None


def are_covered(plan, goals, cover):
    """Whether a thing is a list of tuples of two that begin with the goals, in order."""
    if not isinstance(cover, list) or len(cover) != len(goals):
        return False
    for goal, pair in zip(goals, cover):
        if not isinstance(pair, tuple) or len(pair) != 2 or goal_of(plan, pair[0]) != goal:
            return False
    return True


class Seen:
    """The standings of a paper that shows that a goal is come to by nothing. Most of a cover's papers have the same
    ones again, so what was found of these last is there for the next paper."""

    def __init__(self, web):
        self.web = web
        self.things = None
        # Whether they show anything at all, and all goals that happenings from them come to.
        self.is_closed = False
        self.reached = {}

    def look_at(self, things):
        """Looks at what may be a list of standings."""
        if self.things is not None and things == self.things and not [x for x in things if has_truth(x)]:
            return
        numbers = numbers_for(self.web, things)
        self.things = None if numbers is None else list(things)
        self.is_closed = numbers is not None and 0 in numbers
        self.reached = {}
        there = {number: True for number in numbers or ()}
        for number in there:
            for at in range(len(self.web.happenings)):
                told, went, behind = self.web.cell(number, at)
                self.is_closed = self.is_closed and behind in there
                if not isinstance(told, str):
                    for goal in [*went, *[(stood, None) for stood in self.web.states[behind][0].stood]]:
                        self.reached[goal] = True

    def shows_none(self, goal, things):
        """Whether a thing is a closed list of standings that shows that nothing comes to a goal."""
        self.look_at(things)
        return self.is_closed and goal not in self.reached and not begin_comes_to(self.web, goal)


def is_by_right(web, ways, goal, paper):
    """Whether a thing shows where a goal is come to; ways are the cells of the trials' happenings."""
    if not isinstance(paper, tuple) or len(paper) != 3 or paper[0] != "by":
        return False
    _, t, k = paper
    if not is_whole(t) or not is_whole(k) or not 0 <= t < len(ways) or not 0 <= k <= len(ways[t]):
        return False
    return begin_comes_to(web, goal) if k == 0 else cell_comes_to(web, ways[t][k - 1], goal)


def cover_fault(web, some, cover):
    """What is wrong first with trials and their cover, None where they are right."""
    wrong = trials_wrong(web, some)
    if wrong is not None:
        return wrong
    goals = goals_of(web.plan)
    if not are_covered(web.plan, goals, cover):
        return ("goals",)
    ways = [way_by(web, trial[0]) for trial in some]
    seen = Seen(web)
    for k, goal in enumerate(goals):
        paper = cover[k][1]
        if isinstance(paper, tuple) and len(paper) == 2 and paper[0] == "none":
            if not seen.shows_none(goal, paper[1]):
                return ("none", k)
        elif not is_by_right(web, ways, goal, paper):
            return ("by", k)
    return None
