"""The rows of code: what they tell of a plan, and their texts.

The first row tells how many there are. Of facts, happenings and stands each has a row, stands in the chart's order
and known by their numbers in it, and each move has one behind that of its stand. What stands within terms, guards and
deeds is laid flat, each word ahead of what belongs to it, so that rows are never deep."""

from deepstands.errors import NoText
from deepstands.kinds import FIGURES
from deepstands.plan import Plan

HEAD = "code"
# A sign that no name and no number has.
NOTHING = "."
# By its word what stands behind it: a part, which has a word of its own, or something else.
BEHIND = {
    "num": ("worth",),
    "fact": ("name",),
    "sum": ("part", "part"),
    "less": ("part", "part"),
    "yes": (),
    "in": ("name",),
    "below": ("part", "part"),
    "same": ("part", "part"),
    "not": ("part",),
    "both": ("part", "part"),
    "either": ("part", "part"),
    "set": ("name", "part"),
    "raise": ("name",),
    "say": ("name", "part"),
}


def laid_flat(part):
    """The words of a term, a guard or a deed, one behind the other."""
    words = []
    for thing in part:
        if isinstance(thing, tuple):
            words.extend(laid_flat(thing))
        else:
            words.append(thing)
    return tuple(words)


def raised_at(words, at):
    """The part that begins at a place of its words, and the place behind it."""
    things = [words[at]]
    at += 1
    for kind in BEHIND[things[0]]:
        if kind == "part":
            thing, at = raised_at(words, at)
        else:
            thing = words[at]
            at += 1
        things.append(thing)
    return tuple(things), at


def raised(words):
    """The part of which these are the words."""
    return raised_at(words, 0)[0]


def flat_deeds(deeds):
    """The words of each deed."""
    return tuple([laid_flat(deed) for deed in deeds])


def raised_deeds(rows):
    """The deeds of which these are the words."""
    return tuple([raised(words) for words in rows])


def stand_rows(number, cell):
    """The rows of a stand and of its moves."""
    name, sort, above, into, out, moves = cell
    rows = [("stand", name, sort, above, flat_deeds(into), flat_deeds(out))]
    for when, guard, deeds, goals in moves:
        rows.append(("move", number, when, laid_flat(guard), flat_deeds(deeds), goals))
    return rows


def rows_of(plan):
    """The rows of a plan's code."""
    rows = [("fact", *fact) for fact in plan.facts]
    rows.extend([("on", happening) for happening in plan.happenings])
    for number, cell in enumerate(plan.cells):
        rows.extend(stand_rows(number, cell))
    return [(HEAD, len(rows) + 1)] + rows


def plan_by(rows):
    """The plan of which these are the rows."""
    facts = tuple([row[1:] for row in rows if row[0] == "fact"])
    happenings = tuple([row[1] for row in rows if row[0] == "on"])
    stands = [row for row in rows if row[0] == "stand"]
    moves = [[] for _ in stands]
    for row in rows:
        if row[0] == "move":
            when, guard, deeds, goals = row[2:]
            moves[row[1]].append((when, raised(guard), raised_deeds(deeds), goals))
    cells = []
    for row, more in zip(stands, moves):
        name, sort, above, into, out = row[1:]
        cells.append((name, sort, above, raised_deeds(into), raised_deeds(out), tuple(more)))
    return Plan(facts, happenings, cells)


def signs_of(thing):
    """The signs of a row, or of what is in it."""
    if thing is None:
        return [NOTHING]
    if not isinstance(thing, tuple):
        return [str(thing)]
    signs = ["("]
    for part in thing:
        signs.extend(signs_of(part))
    return signs + [")"]


def thing_of(sign):
    """What a sign that is no bracket stands for."""
    if sign == NOTHING:
        return None
    figures = sign.removeprefix("-")
    if figures != "" and all([figure in FIGURES for figure in figures]):
        return int(sign)
    return sign


def row_text(row):
    """The text of a row."""
    return " ".join(signs_of(row)[1:-1])


def row_of(text):
    """The row of a text."""
    opened = [[]]
    for sign in text.split(" "):
        if sign == "(":
            opened.append([])
        elif sign != ")":
            opened[-1].append(thing_of(sign))
        elif len(opened) == 1:
            raise NoText(0, 0)
        else:
            closed = tuple(opened.pop())
            opened[-1].append(closed)
    return tuple(opened[0])
