"""Steps: which moves fit and are chosen, and what comes of a happening."""

from deepstands.errors import NoHappening
from deepstands.kinds import own
from deepstands.moment import Moment, begun, stepped
from deepstands.plan import plan_of
from deepstands.standings import fault_of, standing_of, state_for


def moment_for(chart, standing, what):
    """The moment at which a what is asked for; what is no such thing is refused."""
    plan = plan_of(chart)
    state = state_for(plan, standing)
    if not plan.knows_what(what):
        raise NoHappening(own(what))
    return Moment(plan, state)


def step_for(chart, standing, happening):
    """A step from a standing, done; what is no such thing is refused."""
    plan = plan_of(chart)
    state = state_for(plan, standing)
    if not plan.knows_happening(happening):
        raise NoHappening(own(happening))
    return stepped(plan, state, happening)


def addresses(plan, moves):
    """The addresses of moves (number, k)."""
    return [(plan.names[number], k) for number, k in moves]


def behind(moment):
    """The standing behind a step, and what it said."""
    return (standing_of(moment.plan, moment.state()), list(moment.heard))


def told(moment):
    """For each what taken in a step the what, the moves chosen, what was left and what was entered."""
    plan = moment.plan
    return [
        (what, addresses(plan, picked), [plan.names[k] for k in left], [plan.names[k] for k in entered])
        for what, picked, left, entered in moment.taken
    ]


def standing_wrong(chart, thing):
    """None where the thing is a standing of the chart, else the first that is wrong with it."""
    return fault_of(plan_of(chart), thing)


def fits(chart, standing, what):
    """The addresses of all moves that fit a what, in the chart's order."""
    moment = moment_for(chart, standing, what)
    return addresses(moment.plan, sorted(moment.fitting(what)))


def chosen(chart, standing, what):
    """The addresses of the moves that are chosen by a what, as they are chosen."""
    moment = moment_for(chart, standing, what)
    return addresses(moment.plan, moment.chosen(what))


def step(chart, standing, happening):
    """The standing behind a happening, or tick, and what was said."""
    return behind(step_for(chart, standing, happening))


def start(chart):
    """The standing of the begin, and what was said."""
    return behind(begun(plan_of(chart)))


def trace(chart, standing, happening):
    """What is done in a step, what by what."""
    return told(step_for(chart, standing, happening))


def trace_start(chart):
    """What is done at the begin, what by what."""
    return told(begun(plan_of(chart)))
