"""Texts: charts read of them, and printed."""

from deepstands.charts import tree_of
from deepstands.prints import head_rows, inner_rows
from deepstands.sheets import read_sheet


def read_chart(text):
    """The chart that a text tells; whether it is one by chart_wrong isn't looked at."""
    return read_sheet(text).chart()


def places_of(text):
    """The row numbers of the stands and of their moves, by the stands' names, in the chart's order."""
    places = {}
    for draft in read_sheet(text).root.in_order():
        if draft.name not in places:
            places[draft.name] = (draft.number, list(draft.move_numbers))
    return places


def printed(chart):
    """The text of a chart."""
    tree = tree_of(chart)
    rows = head_rows(chart)
    indents = []
    for stand, above in zip(tree.stands, tree.above):
        indent = "" if above is None else indents[above] + "  "
        indents.append(indent)
        rows.append(f"{indent}{stand[1]} {stand[0]}")
        rows.extend([f"{indent}  {row}" for row in inner_rows(stand)])
    return rows
