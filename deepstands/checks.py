"""What chart_wrong looks for. Each function takes for granted that those ahead of it found nothing."""

from deepstands.kinds import FULL_SORTS, GREATEST, MARKER_SORTS, is_name, is_whole
from deepstands.parts import DONE, Parts
from deepstands.tree import Tree, is_shaped, walk

MOST_FACTS = 12
MOST_HAPPENINGS = 20
MOST_STANDS = 60
MOST_DEEP = 10
MOST_MOVES = 120


def outline_wrong(thing):
    """Whether it is no tuple of three, the first two tuples."""
    if not isinstance(thing, tuple) or len(thing) != 3:
        return ("chart",)
    if not isinstance(thing[0], tuple) or not isinstance(thing[1], tuple):
        return ("chart",)
    return None


def is_fact(thing):
    """Whether it is a fact: its NAME, low, high, first."""
    if not isinstance(thing, tuple) or len(thing) != 4:
        return False
    name, low, high, first = thing
    if not is_name(name) or not is_whole(low) or not is_whole(high) or not is_whole(first):
        return False
    return -GREATEST <= low <= first <= high <= GREATEST


def fact_wrong(chart):
    """The first fact that is none."""
    for k, fact in enumerate(chart[0]):
        if not is_fact(fact):
            return ("fact", k)
    return None


def happening_wrong(chart):
    """The first happening that is none."""
    for k, happening in enumerate(chart[1]):
        if not is_name(happening) or happening == "tick":
            return ("happening", k)
    return None


def parts_of(chart):
    """Where to note what stands of the chart are made of."""
    return Parts(tuple([fact[0] for fact in chart[0]]), chart[1])


def has_sort(stand):
    """Whether its sort is one, and it has what a stand of this sort may have; what it has in it is a tuple."""
    sort = stand[1]
    if sort == "leaf" or sort == "end":
        return not stand[2]
    if sort == "one" or sort == "all":
        return len(stand[2]) > 0
    return (sort == "back" or sort == "deep") and stand[2:] == ((), (), (), ())


def are_stands(stands, parts):
    """Whether these are stands by their own form, but for the names that are noted in parts; each is shaped like one
    (see is_shaped)."""
    moves, deeds = [], []
    for stand in stands:
        into, out, more = stand[3:]
        if not is_name(stand[0]) or not has_sort(stand):
            return False
        if not isinstance(into, tuple) or not isinstance(out, tuple) or not isinstance(more, tuple):
            return False
        deeds.extend(into)
        deeds.extend(out)
        moves.extend(more)
    return parts.take(moves, deeds)


def tree_with(chart, parts):
    """The tree of the stands, None where one is none by its own form."""
    found = walk(chart[2])
    if found is None or not are_stands(found[0], parts):
        return None
    tree = Tree(found[0], found[1])
    return tree if parts.has_names(tree.stands) else None


def stand_wrong(chart):
    """The first stand that is none by its own form."""
    waiting = [((), chart[2])]
    while waiting:
        address, stand = waiting.pop()
        parts = parts_of(chart)
        if not is_shaped(stand) or not are_stands([stand], parts) or not parts.has_names({}):
            return ("stand", address)
        inner = [(address + (k,), thing) for k, thing in enumerate(stand[2])]
        waiting.extend(inner[::-1])
    return None


def great_wrong(chart, tree, parts):
    """Whether there is more of something than a chart may have."""
    if len(chart[0]) > MOST_FACTS or len(chart[1]) > MOST_HAPPENINGS or len(tree.names) > MOST_STANDS:
        return ("great",)
    return ("great",) if tree.deep > MOST_DEEP or parts.many_moves > MOST_MOVES else None


def first_again(names):
    """The first name that has one like it ahead of it, else None."""
    if len(set(names)) == len(names):
        return None
    seen = set()
    for name in names:
        if name in seen:
            return name
        seen.add(name)
    return None


def twice_wrong(chart, tree):
    """The first name told twice: facts and stands share theirs, happenings have their own."""
    name = first_again([fact[0] for fact in chart[0]] + tree.names)
    if name is None:
        name = first_again(chart[1])
    return None if name is None else ("twice", name)


def root_wrong(chart):
    """Whether the root can have no stands in it."""
    return None if chart[2][1] in FULL_SORTS else ("root",)


def first_wrong(tree):
    """The first one of which no stand can be its first."""
    for name, stand in tree.stands.items():
        if stand[1] == "one" and all([inner[1] in MARKER_SORTS for inner in stand[2]]):
            return ("first", name)
    return None


def misplaced(stand):
    """The names of the markers straight in the stand that may not stand there."""
    names = []
    seen = []
    for inner in stand[2]:
        if inner[1] in MARKER_SORTS:
            if stand[1] != "one" or inner[1] in seen:
                names.append(inner[0])
            seen.append(inner[1])
    return names


def marker_wrong(tree):
    """The first marker, in the chart's order, that may not stand where it does."""
    names = set()
    for stand in tree.stands.values():
        for name in misplaced(stand):
            names.add(name)
    for name in tree.names:
        if name in names:
            return ("marker", name)
    return None


def place_wrong(tree):
    """What is wrong with the places of markers; most charts have none."""
    sorts = [stand[1] for stand in tree.stands.values()]
    if "back" not in sorts and "deep" not in sorts:
        return None
    return first_wrong(tree) or marker_wrong(tree)


def are_together(tree, goals):
    """Whether any two of the goals can be entered together."""
    for at, goal in enumerate(goals):
        if not all([tree.together(ahead, goal) for ahead in goals[:at]]):
            return False
    return True


def names_word(tree, parts):
    """The word of what is wrong with the names that were found, else None."""
    if parts.strange_facts:
        return "fact"
    if parts.strange_happenings:
        return "happening"
    for name in parts.asked:
        if name not in tree.stands or tree.is_marker(name):
            return "in"
    for goals in parts.goals:
        for goal in goals:
            # The root has no path, what is no stand has none at all.
            if not tree.paths.get(goal):
                return "goal"
        if len(goals) > 1 and not are_together(tree, goals):
            return "goal"
    return None


def is_done_well(stand, moves):
    """Whether none of the stand's moves is by a done that can't come."""
    if DONE not in [move[0] for move in moves]:
        return True
    return stand[1] == "one" and "end" in [inner[1] for inner in stand[2]]


def row_word(chart, tree, stand, moves, deeds):
    """The word of what is wrong with moves of a stand, or with deeds of it, else None."""
    parts = parts_of(chart)
    parts.take(moves, deeds)
    word = names_word(tree, parts)
    return "done" if word is None and not is_done_well(stand, moves) else word


def name_wrong(chart, tree, parts):
    """The first row of a stand that names what isn't there, or may not be named there; parts are those of all."""
    stands = list(tree.stands.values())
    if names_word(tree, parts) is None:
        if not parts.has_done or all([is_done_well(stand, stand[5]) for stand in stands]):
            return None
    for stand in stands:
        rows = [((), stand[3]), ((), stand[4])] + [((move,), ()) for move in stand[5]]
        for k, row in enumerate(rows):
            word = row_word(chart, tree, stand, row[0], row[1])
            if word is not None:
                return (word, stand[0], k)
    return None


def looked_over(thing):
    """What is wrong first with a thing, None where it is a chart; and the tree of its stands, where it has one."""
    wrong = outline_wrong(thing) or fact_wrong(thing) or happening_wrong(thing)
    if wrong is not None:
        return wrong, None
    parts = parts_of(thing)
    tree = tree_with(thing, parts)
    if tree is None:
        return stand_wrong(thing), None
    wrong = (
        great_wrong(thing, tree, parts) or twice_wrong(thing, tree) or root_wrong(thing) or place_wrong(tree)
        or name_wrong(thing, tree, parts)
    )
    return wrong, tree
