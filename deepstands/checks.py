"""What chart_wrong looks for, one function for each; each takes for granted that those ahead of it found nothing."""

from deepstands.forms import is_fact, is_happening, is_stand
from deepstands.kinds import MARKER_SORTS
from deepstands.tree import Tree, walk

MOST_FACTS = 12
MOST_HAPPENINGS = 20
MOST_STANDS = 60
MOST_DEEP = 10
MOST_MOVES = 120


def outline_wrong(thing):
    """Whether it is no tuple of three, the first two tuples."""
    if not isinstance(thing, tuple) or len(thing) != 3:
        return ("chart",)
    if not isinstance(thing[0], tuple) or not isinstance(thing[1], tuple):
        return ("chart",)
    return None


def fact_wrong(chart):
    """The first fact that is none."""
    for k, fact in enumerate(chart[0]):
        if not is_fact(fact):
            return ("fact", k)
    return None


def happening_wrong(chart):
    """The first happening that is none."""
    for k, happening in enumerate(chart[1]):
        if not is_happening(happening):
            return ("happening", k)
    return None


def stand_wrong(chart):
    """The first stand that is none by its own form."""
    waiting = [((), chart[2])]
    while waiting:
        address, stand = waiting.pop()
        if not is_stand(stand):
            return ("stand", address)
        inner = [(address + (k,), thing) for k, thing in enumerate(stand[2])]
        waiting.extend(inner[::-1])
    return None


def great_wrong(chart):
    """Whether there is more of something than a chart may have."""
    if len(chart[0]) > MOST_FACTS or len(chart[1]) > MOST_HAPPENINGS:
        return ("great",)
    stands = 0
    moves = 0
    waiting = [(chart[2], 1)]
    while waiting:
        stand, deep = waiting.pop()
        stands += 1
        moves += len(stand[5])
        if stands > MOST_STANDS or deep > MOST_DEEP or moves > MOST_MOVES:
            return ("great",)
        waiting.extend([(inner, deep + 1) for inner in stand[2]])
    return None


def first_again(names):
    """The first name that has one like it ahead of it, else None."""
    seen = set()
    for name in names:
        if name in seen:
            return name
        seen.add(name)
    return None


def twice_wrong(chart):
    """The first name told twice: facts and stands share theirs, happenings have their own."""
    facts, happenings, root = chart
    name = first_again([fact[0] for fact in facts] + [stand[0] for stand, _ in walk(root)])
    if name is None:
        name = first_again(list(happenings))
    return None if name is None else ("twice", name)


def root_wrong(chart):
    """Whether the root can have no stands in it."""
    return None if chart[2][1] in ("one", "all") else ("root",)


def first_wrong(chart):
    """The first one of which no stand can be its first."""
    for stand, _ in walk(chart[2]):
        if stand[1] == "one" and all([inner[1] in MARKER_SORTS for inner in stand[2]]):
            return ("first", stand[0])
    return None


def misplaced(stand):
    """The names of the markers straight in the stand that may not stand there."""
    names = []
    seen = []
    for inner in stand[2]:
        if inner[1] in MARKER_SORTS:
            if stand[1] != "one" or inner[1] in seen:
                names.append(inner[0])
            seen.append(inner[1])
    return names


def marker_wrong(chart):
    """The first marker, in the chart's order, that may not stand where it does."""
    found = walk(chart[2])
    names = set()
    for stand, _ in found:
        for name in misplaced(stand):
            names.add(name)
    for stand, _ in found:
        if stand[0] in names:
            return ("marker", stand[0])
    return None


def told_by(word, thing):
    """The names that stand straight behind a word in a guard, a term, a deed or a when."""
    if thing[0] == word:
        return [thing[1]]
    names = []
    for part in thing[1:]:
        if isinstance(part, tuple):
            names.extend(told_by(word, part))
    return names


def told_by_any(words, things):
    """The names that stand straight behind one of the words in one of the things."""
    names = []
    for word in words:
        for thing in things:
            names.extend(told_by(word, thing))
    return names


def goals_wrong(tree, goals):
    """Whether goals are told that can't be entered together, or at all."""
    for at, goal in enumerate(goals):
        if not tree.knows(goal) or tree.parent(goal) is None:
            return True
        for ahead in goals[:at]:
            if not tree.together(ahead, goal):
                return True
    return False


def row_wrong(chart, tree, stand, row):
    """The word of what is wrong in one of the rows of a stand, a move or such a thing, else None."""
    when, guard, deeds, goals = row
    facts = [fact[0] for fact in chart[0]]
    things = [when, guard, *deeds]
    if not all([name in facts for name in told_by_any(("fact", "set"), things)]):
        return "fact"
    if not all([name in chart[1] for name in told_by_any(("on", "raise"), things)]):
        return "happening"
    if not all([tree.knows(name) and not tree.is_marker(name) for name in told_by_any(("in",), things)]):
        return "in"
    if goals_wrong(tree, goals):
        return "goal"
    if when == ("done",) and (stand[1] != "one" or "end" not in [inner[1] for inner in stand[2]]):
        return "done"
    return None


def rows_of(stand):
    """What a stand does, into and out as if they were moves: those come ahead of its moves when these are numbered."""
    into = (("into",), ("yes",), stand[3], ())
    out = (("out",), ("yes",), stand[4], ())
    return [into, out] + list(stand[5])


def name_wrong(chart):
    """The first row of a stand that names what isn't there, or may not be named there."""
    tree = Tree(chart[2])
    for name in tree.names:
        stand = tree.stands[name]
        for k, row in enumerate(rows_of(stand)):
            word = row_wrong(chart, tree, stand, row)
            if word is not None:
                return (word, name, k)
    return None
