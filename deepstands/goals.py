"""Goals: stands to come to and moves to be chosen, and the first rows that come to them.

Here a goal is known by a tuple: (NAME, None) of a stand, (NAME, k), its address, of a move."""

from deepstands.kinds import MARKER_SORTS, is_whole


def goals_of(plan):
    """The goals of a plan's chart, in order."""
    found = []
    for number, stand in enumerate(plan.stands):
        if number > 0 and stand[1] not in MARKER_SORTS:
            found.append((stand[0], None))
        found.extend([(stand[0], k) for k in range(len(stand[5]))])
    return found


def goal_told(goal):
    """A goal, as it is told."""
    return ("stand", goal[0]) if goal[1] is None else ("move", *goal)


def goal_of(plan, thing):
    """The goal that a thing tells of, None where it is none."""
    if not isinstance(thing, tuple) or not 2 <= len(thing) <= 3 or not plan.tree.knows(thing[1]):
        return None
    number = plan.numbers[thing[1]]
    stand = plan.stands[number]
    if len(thing) == 2:
        return (stand[0], None) if thing[0] == "stand" and number > 0 and stand[1] not in MARKER_SORTS else None
    if thing[0] != "move" or not is_whole(thing[2]) or not 0 <= thing[2] < len(stand[5]):
        return None
    return (stand[0], thing[2])


def begin_comes_to(web, goal):
    """Whether the begin comes to a goal."""
    if goal[1] is None:
        return goal[0] in web.stood_at(0)
    return goal in web.begin_went


def first_comings(web):
    """By the goals that a web, gone through, comes to, the standing and the happening, by their numbers, that come to
    them first, None where the begin does."""
    found = {move: None for move in web.begin_went}
    for number, row in enumerate(web.rows):
        for at, (told, went, _) in enumerate(row):
            if went and not isinstance(told, str):
                for move in went:
                    if move not in found:
                        found[move] = (number, at)
    for number in web.firsts():
        for name in web.stood_at(number):
            found.setdefault((name, None), web.came[number])
    return found


def row_by(web, coming):
    """The row of happenings of a first coming."""
    if coming is None:
        return []
    number, at = coming
    return [*web.row_to(number), web.happenings[at]]
