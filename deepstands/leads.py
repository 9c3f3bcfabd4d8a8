"""Changes of a chart under its runs: standings are led over."""

from deepstands.errors import Apart, Beyond, Gone, Moved
from deepstands.lead import Lead
from deepstands.plan import plan_of
from deepstands.standings import state_for


def outcome_of(chart, other, standing, names):
    """The standing to which a standing is led, and what is wrong where it is led to none."""
    plan = plan_of(chart)
    other_plan = plan_of(other)
    state_for(plan, standing)
    return Lead(plan, other_plan, standing, names).outcome()


def led(chart, other, standing, names):
    """The standing of another chart to which a standing of a chart is led, by a dict from old names to new ones."""
    target, wrong = outcome_of(chart, other, standing, names)
    if wrong is None:
        return target
    if wrong[0] == "Gone":
        raise Gone(wrong[1])
    if wrong[0] == "Apart":
        raise Apart(wrong[1], wrong[2])
    if wrong[0] == "Moved":
        raise Moved(wrong[1])
    raise Beyond(wrong[1], wrong[2])


def change_wrong(chart, other, standing, names):
    """None where a standing can be led to another chart, else the word of the refusal and its fields."""
    return outcome_of(chart, other, standing, names)[1]
