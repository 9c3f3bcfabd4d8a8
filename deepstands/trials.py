"""Trials: rows of happenings with what a chart does by them, and what they cover."""

from deepstands.covers import Going, cover_fault, going_of, outcome_wrong, own_outcomes
from deepstands.errors import NoGoal, NoHappening
from deepstands.goals import first_comings, goal_of, goal_told, goals_of, row_by
from deepstands.kinds import MARKER_SORTS, own
from deepstands.plan import shared_plan_of
from deepstands.reach import MOST_STANDINGS
from deepstands.web import Web, web_of_all


def least_row(chart, goal, *, most=MOST_STANDINGS):
    """A shortest row of happenings that comes to a goal, the first of these; None where none does."""
    web = web_of_all(shared_plan_of(chart), most)
    wanted = goal_of(web.plan, goal)
    if wanted is None:
        raise NoGoal()
    comings = first_comings(web)
    return row_by(web, comings[wanted]) if wanted in comings else None


def trial_of(chart, row):
    """The trial of a row of happenings."""
    told = going_of(shared_plan_of(chart)).outcomes(row)
    if len(told) <= len(row):
        raise NoHappening(own(row[len(told) - 1]))
    return (list(row), own_outcomes(told))


def tried(chart, trial):
    """None where a chart does just what a trial tells, else the first number at which it doesn't, and how."""
    return outcome_wrong(going_of(shared_plan_of(chart)), trial[0], trial[1])


def longest(rows):
    """Those of the rows, each once, that are not the beginning of another one."""
    # A row stands straight ahead of those that begin with it.
    in_order = sorted(rows)
    kept = [row for row, following in zip(in_order, in_order[1:]) if following[:len(row)] != row]
    return kept + in_order[-1:]


def trials(chart, *, most=MOST_STANDINGS):
    """Trials that go by all that any run goes by, and of each goal a paper that shows where, or that none does."""
    web = web_of_all(shared_plan_of(chart), most)
    goals = goals_of(web.plan)
    comings = first_comings(web)
    rows = {goal: row_by(web, comings[goal]) for goal in goals if goal in comings}
    tries = longest(list(rows.values()))
    cover = []
    standings = web.all_standings()
    for goal in goals:
        if goal in rows:
            row = rows[goal]
            number = [longer[:len(row)] == row for longer in tries].index(True)
            cover.append((goal_told(goal), ("by", number, len(row))))
        else:
            cover.append((goal_told(goal), ("none", list(standings))))
    going = Going(web.plan, web.begin_told, web.codes[0])
    return ([(row, own_outcomes(going.outcomes(row))) for row in tries], cover)


def cover_wrong(chart, some, cover):
    """None where trials and their cover are right, else the first that is wrong with them."""
    return cover_fault(Web(shared_plan_of(chart)), some, cover)


def marked(chart, most):
    """The web of a chart, gone through, with all moves noted in its plan that fit a what."""
    plan = shared_plan_of(chart)
    plan.marks = {}
    web = Web(plan)
    web.go_through(most)
    return web


def idle(chart, *, most=MOST_STANDINGS):
    """What stands are never stood in, what moves are never chosen, and what moves never fit."""
    web = marked(chart, most)
    plan = web.plan
    stood = {name: True for number in web.firsts() for name in web.stood_at(number)}
    chosen = {move: True for row in web.rows for _, went, _ in row for move in went}
    for move in web.begin_went:
        chosen[move] = True
    stands = [stand[0] for stand in plan.stands if stand[0] not in stood and stand[1] not in MARKER_SORTS]
    moves = [(stand[0], k) for stand in plan.stands for k in range(len(stand[5]))]
    unchosen = [move for move in moves if move not in chosen]
    return (stands, unchosen, [move for move in moves if move not in plan.marks])


def without_moves(plan, number, marks):
    """A stand of a plan, and all in it, with those of their moves alone that are marked."""
    name, sort, stands, into, out, moves = plan.stands[number]
    left = []
    inner = number + 1
    for _ in stands:
        left.append(without_moves(plan, inner, marks))
        inner = plan.tree.last[inner] + 1
    kept = [move for k, move in enumerate(moves) if (name, k) in marks]
    return (name, sort, tuple(left), into, out, tuple(kept))


def less(chart, *, most=MOST_STANDINGS):
    """The chart without the moves that never fit."""
    web = marked(chart, most)
    return (chart[0], chart[1], without_moves(web.plan, 0, web.plan.marks))
