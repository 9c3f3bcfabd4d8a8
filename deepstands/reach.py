"""All standings that are come to."""

from deepstands.plan import plan_of
from deepstands.steps import addresses
from deepstands.web import web_of_all

MOST_STANDINGS = 2000


def told_cell(plan, cell):
    """What is told of a cell."""
    told, went, behind = cell
    if isinstance(told, str):
        return ("refused", told)
    return ("told", list(told), addresses(plan, went), behind)


def reach(chart, *, most=MOST_STANDINGS):
    """All standings that are come to, and of each what every happening does."""
    web = web_of_all(plan_of(chart), most)
    return (web.all_standings(), [[told_cell(web.plan, cell) for cell in row] for row in web.rows])
