"""Steps: which moves fit and are chosen, and what comes of a happening."""

from deepstands.errors import NoHappening
from deepstands.kinds import own
from deepstands.moment import begun, outcome_of_begin, run, stepped, unrefused
from deepstands.moves import fitting_of, movers_at, picked_of
from deepstands.plan import plan_of, what_of
from deepstands.standings import read_standing, standing_of, code_for


def code_to_ask(plan, standing, what):
    """The code of a standing of which a what is asked; what is no such thing is refused."""
    code = code_for(plan, standing)
    if not plan.knows_what(what):
        raise NoHappening(own(what))
    return code


def what_for(plan, happening):
    """The what that a happening, or tick, is; what is none is refused."""
    if not plan.knows_happening(happening):
        raise NoHappening(own(happening))
    return what_of(happening)


def addresses(plan, moves):
    """The addresses of moves (number, k)."""
    return [(plan.names[number], k) for number, k in moves]


def behind(plan, done):
    """The standing behind a step, and what it said."""
    code, said = done
    return (standing_of(plan, code), list(said))


def named(plan, taken):
    """For each what taken in a step the what, the moves chosen, what was left and what was entered."""
    names = plan.names
    order = list(range(len(names)))
    return [
        (
            what, list(went),
            [names[k] for k in order[::-1] if code >> k & 1 and not keep >> k & 1],
            [names[k] for k in order if enter >> k & 1],
        )
        for what, went, code, keep, enter in taken
    ]


def standing_wrong(chart, thing):
    """None where the thing is a standing of the chart, else the first that is wrong with it."""
    return read_standing(plan_of(chart), thing)[0]


def fits(chart, standing, what):
    """The addresses of all moves that fit a what, in the chart's order."""
    plan = plan_of(chart)
    code = code_to_ask(plan, standing, what)
    fitting = fitting_of(plan, movers_at(plan, what, code), code, code)
    return addresses(plan, sorted([move for _, move, _ in fitting]))


def chosen(chart, standing, what):
    """The addresses of the moves that are chosen by a what, as they are chosen."""
    plan = plan_of(chart)
    code = code_to_ask(plan, standing, what)
    return addresses(plan, picked_of(plan, movers_at(plan, what, code), code, code))


def step(chart, standing, happening):
    """The standing behind a happening, or tick, and what was said."""
    plan = plan_of(chart)
    code = code_for(plan, standing)
    return behind(plan, stepped(plan, code, what_for(plan, happening)))


def start(chart):
    """The standing of the begin, and what was said."""
    plan = plan_of(chart)
    return behind(plan, begun(plan))


def trace(chart, standing, happening):
    """What is done in a step, what by what."""
    plan = plan_of(chart)
    code = code_for(plan, standing)
    taken = []
    unrefused(run(plan, code, [what_for(plan, happening)], -1, taken))
    return named(plan, taken)


def trace_start(chart):
    """What is done at the begin, what by what."""
    plan = plan_of(chart)
    taken = []
    unrefused(outcome_of_begin(plan, taken))
    return named(plan, taken)
