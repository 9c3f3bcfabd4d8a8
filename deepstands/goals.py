"""Goals: stands to come to and moves to be chosen, and the first rows that come to them.

Here a goal is known by a tuple: (number, None) of a stand, (number, k) of a move."""

from deepstands.kinds import MARKER_SORTS, is_whole


def goals_of(plan):
    """The goals of a plan's chart, in order."""
    found = []
    for number, stand in enumerate(plan.stands):
        if number > 0 and stand[1] not in MARKER_SORTS:
            found.append((number, None))
        found.extend([(number, k) for k in range(len(stand[5]))])
    return found


def goal_told(plan, goal):
    """A goal, as it is told."""
    number, k = goal
    return ("stand", plan.names[number]) if k is None else ("move", plan.names[number], k)


def goal_of(plan, thing):
    """The goal that a thing tells of, None where it is none."""
    if not isinstance(thing, tuple) or not 2 <= len(thing) <= 3 or not plan.tree.knows(thing[1]):
        return None
    number = plan.numbers[thing[1]]
    stand = plan.stands[number]
    if len(thing) == 2:
        return (number, None) if thing[0] == "stand" and number > 0 and stand[1] not in MARKER_SORTS else None
    if thing[0] != "move" or not is_whole(thing[2]) or not 0 <= thing[2] < len(stand[5]):
        return None
    return (number, thing[2])


def begin_comes_to(web, goal):
    """Whether the begin comes to a goal."""
    if goal[1] is None:
        return goal[0] in web.states[0][0].stood
    return goal in web.begin_went


def cell_comes_to(web, cell, goal):
    """Whether the happening that does what is in a cell comes to a goal."""
    told, went, behind = cell
    if isinstance(told, str):
        return False
    return goal[0] in web.states[behind][0].stood if goal[1] is None else goal in went


def first_comings(web):
    """By the goals that a web, gone through, comes to, the standing and the happening, by their numbers, that come to
    them first, None where the begin does."""
    found = {move: None for move in web.begin_went}
    for number in web.states[0][0].stood:
        found[(number, None)] = None
    for number, row in enumerate(web.rows):
        for at, (told, went, behind) in enumerate(row):
            if isinstance(told, str):
                continue
            for move in went:
                found.setdefault(move, (number, at))
            # What was come to ahead was looked at then.
            if web.came[behind] == (number, at):
                for stand in web.states[behind][0].stood:
                    found.setdefault((stand, None), (number, at))
    return found


def row_by(web, coming):
    """The row of happenings of a first coming."""
    if coming is None:
        return []
    number, at = coming
    return [*web.row_to(number), web.happenings[at]]
