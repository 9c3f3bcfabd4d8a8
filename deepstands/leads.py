"""Changes of a chart under its runs: standings are led over."""

from deepstands.errors import Apart, Beyond, Gone, Moved
from deepstands.lead import Lead
from deepstands.plan import plan_of
from deepstands.standings import standing_of, code_for


def lead_of(chart, other, standing, names):
    """The way of a standing of a chart to another one."""
    plan = plan_of(chart)
    other_plan = plan_of(other)
    return Lead(plan, other_plan, code_for(plan, standing), names)


def led(chart, other, standing, names):
    """The standing of another chart to which a standing of a chart is led, by a dict from old names to new ones."""
    lead = lead_of(chart, other, standing, names)
    code, wrong = lead.outcome()
    if wrong is None:
        return standing_of(lead.other, code)
    if wrong[0] == "Gone":
        raise Gone(wrong[1])
    if wrong[0] == "Apart":
        raise Apart(wrong[1], wrong[2])
    if wrong[0] == "Moved":
        raise Moved(wrong[1])
    raise Beyond(wrong[1], wrong[2])


def change_wrong(chart, other, standing, names):
    """None where a standing can be led to another chart, else the word of the refusal and its fields."""
    return lead_of(chart, other, standing, names).outcome()[1]
