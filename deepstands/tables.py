"""Tables: lots of standings, what each happening tells of them, and the lot behind it."""

from deepstands.kinds import is_whole
from deepstands.parting import Parting

REFUSALS = ("Beyond", "Endless")


def parted(web):
    """The standings of a web that was gone through, parted."""
    return Parting(web.all_tells(), web.all_targets())


def lots_of(parting):
    """The lots, by their first, of the numbers of states, rising."""
    found = {}
    for state, block in enumerate(parting.blocks):
        found.setdefault(block, []).append(state)
    return list(found.values())


def is_said(thing):
    """Whether it is a tuple of tuples of a text and a whole number."""
    if not isinstance(thing, tuple):
        return False
    for pair in thing:
        if not isinstance(pair, tuple) or len(pair) != 2 or not isinstance(pair[0], str) or not is_whole(pair[1]):
            return False
    return True


def is_table_row(thing, many_rows, many_happenings):
    """Whether it is a row of a table."""
    if not isinstance(thing, tuple) or len(thing) != many_happenings:
        return False
    for cell in thing:
        if not isinstance(cell, tuple) or len(cell) != 2 or not is_whole(cell[0]) or not 0 <= cell[0] < many_rows:
            return False
        if not is_said(cell[1]) and (not isinstance(cell[1], str) or cell[1] not in REFUSALS):
            return False
    return True


def is_table(thing, many_happenings):
    """Whether it is a table by form, for so many happenings."""
    if not isinstance(thing, tuple) or len(thing) != 2 or not is_said(thing[0]):
        return False
    rows = thing[1]
    if not isinstance(rows, tuple) or not rows:
        return False
    return all([is_table_row(row, len(rows), many_happenings) for row in rows])


def row_unlike(web, table):
    """A shortest row of happenings of which a table tells unlike a web that was gone through, the first of these, []
    where the begins do; None where none is."""
    said, rows = table
    if said != web.begin_told:
        return []
    tells, targets = web.all_tells(), web.all_targets()
    # The lots of the table are states behind the standings.
    many = len(targets)
    tells.extend([tuple([told for _, told in row]) for row in rows])
    targets.extend([[many + lot for lot, _ in row] for row in rows])
    letters = Parting(tells, targets).row_apart(0, many)
    return None if letters is None else [web.happenings[at] for at in letters]
