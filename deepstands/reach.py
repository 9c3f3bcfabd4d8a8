"""All standings that are come to."""

from deepstands.plan import shared_plan_of
from deepstands.web import web_of_all

MOST_STANDINGS = 2000


def told_cell(told, went, behind):
    """What is told of a cell in which something is said, or refused."""
    return ("refused", told) if isinstance(told, str) else ("told", list(told), list(went), behind)


def told_row(row):
    """What is told of a standing's cells; most say nothing."""
    return [
        told_cell(told, went, behind) if told else ("told", [], [*went], behind) for told, went, behind in row
    ]


def reach(chart, *, most=MOST_STANDINGS):
    """All standings that are come to, and of each what every happening does."""
    web = web_of_all(shared_plan_of(chart), most)
    return (web.all_standings(), [told_row(row) for row in web.rows])
