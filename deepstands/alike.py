"""What tells the same: two charts, standings of one, tables of a chart."""

from deepstands.errors import NoNumber
from deepstands.kinds import is_whole
from deepstands.pairs import Pairs, Sides, alike_fault
from deepstands.plan import shared_plan_of
from deepstands.reach import MOST_STANDINGS
from deepstands.tables import is_table, lots_of, parted, row_unlike
from deepstands.web import web_of_all


def alike(one, other, *, most=MOST_STANDINGS):
    """The pairs of standings that show that two charts are alike, or a row that parts them."""
    sides = Sides(one, other)
    if not sides.are_begins_alike():
        return ("parts", [])
    pairs = Pairs(sides, most)
    row = pairs.go_through()
    if row is not None:
        return ("parts", row)
    standings = sides.first.all_standings()
    others = sides.second.all_standings()
    return ("alike", [(standings[first], others[second]) for first, second in pairs.noted])


def alike_wrong(one, other, thing):
    """None where a thing shows that two charts are alike, or that they aren't, else the first that is wrong with it."""
    return alike_fault(Sides(one, other), thing)


def lots(chart, *, most=MOST_STANDINGS):
    """The numbers of standings, parted by what rows tell from them."""
    return lots_of(parted(web_of_all(shared_plan_of(chart), most)))


def apart(chart, one, other, *, most=MOST_STANDINGS):
    """A shortest row that parts two standings, by their numbers, the first of these; None where none does."""
    web = web_of_all(shared_plan_of(chart), most)
    for number in (one, other):
        if not is_whole(number) or not 0 <= number < len(web.codes):
            raise NoNumber()
    row = parted(web).row_apart(one, other)
    return None if row is None else [web.happenings[at] for at in row]


def least_table(chart, *, most=MOST_STANDINGS):
    """The table of a chart that has the fewest lots."""
    web = web_of_all(shared_plan_of(chart), most)
    parting = parted(web)
    all_lots = lots_of(parting)
    numbers = {parting.blocks[lot[0]]: number for number, lot in enumerate(all_lots)}
    rows = [
        tuple([(numbers[parting.blocks[behind]], told) for told, _, behind in web.rows[lot[0]]]) for lot in all_lots
    ]
    return (web.begin_told, tuple(rows))


def table_wrong(chart, thing, *, most=MOST_STANDINGS):
    """None where a thing is a table of which all rows tell the same as a chart, else the first that is wrong."""
    web = web_of_all(shared_plan_of(chart), most)
    if not is_table(thing, len(web.happenings)):
        return ("form",)
    row = row_unlike(web, thing)
    return None if row is None else ("row", row)
