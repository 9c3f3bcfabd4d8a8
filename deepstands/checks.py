"""What chart_wrong looks for. Each function takes for granted that those ahead of it found nothing.

Nearly all charts that are handed in are right, so what is asked of a whole chart first is whether anything at all is
wrong; only then the first such place is looked for."""

from deepstands.kinds import FULL_SORTS, GREATEST, KEYWORDS, MARKER_SORTS, MOST_SIGNS, is_name, is_whole
from deepstands.parts import DONE, Parts
from deepstands.tree import MOST_DEEP, Gathered, Tree

MOST_FACTS = 12
MOST_HAPPENINGS = 20
MOST_STANDS = 60
MOST_MOVES = 120


def outline_wrong(thing):
    """Whether it is no tuple of three, the first two tuples."""
    if not isinstance(thing, tuple) or len(thing) != 3:
        return ("chart",)
    if not isinstance(thing[0], tuple) or not isinstance(thing[1], tuple):
        return ("chart",)
    return None


def is_fact(thing):
    """Whether it is a fact: its NAME, low, high, first."""
    if not isinstance(thing, tuple) or len(thing) != 4:
        return False
    name, low, high, first = thing
    if not is_name(name) or not is_whole(low) or not is_whole(high) or not is_whole(first):
        return False
    return -GREATEST <= low <= first <= high <= GREATEST


def fact_wrong(chart):
    """The first fact that is none."""
    for k, fact in enumerate(chart[0]):
        if not is_fact(fact):
            return ("fact", k)
    return None


def happening_wrong(chart):
    """The first happening that is none."""
    for k, happening in enumerate(chart[1]):
        if not is_name(happening) or happening == "tick":
            return ("happening", k)
    return None


def are_names(texts):
    """Whether all of these texts, one at least, are NAMES."""
    for text in texts:
        if len(text) > MOST_SIGNS or text in KEYWORDS or not text.isidentifier():
            return False
    # As in is_name, of all of them at once.
    signs = "".join(texts)
    return signs.isascii() and signs.isalnum() and signs.islower()


def parts_of(chart):
    """Where to note what stands of the chart are made of."""
    return Parts(tuple([fact[0] for fact in chart[0]]), chart[1])


def stand_wrong(chart):
    """The first stand that is none by its own form."""
    waiting = [((), chart[2])]
    while waiting:
        address, stand = waiting.pop()
        gathered = Gathered()
        parts = parts_of(chart)
        if not gathered.take(stand, ()) or not are_names(gathered.names):
            return ("stand", address)
        if not parts.take(gathered.moves, gathered.deeds) or not parts.has_names({}):
            return ("stand", address)
        inner = [(address + (k,), thing) for k, thing in enumerate(stand[2])]
        waiting.extend(inner[::-1])
    return None


def great_wrong(chart, gathered):
    """Whether there is more of something than a chart may have."""
    if len(chart[0]) > MOST_FACTS or len(chart[1]) > MOST_HAPPENINGS or len(gathered.names) > MOST_STANDS:
        return ("great",)
    # The root is one deep.
    deepest = max([len(path) for path in gathered.paths]) + 1
    return ("great",) if deepest > MOST_DEEP or len(gathered.moves) > MOST_MOVES else None


def first_again(names):
    """The first name that has one like it ahead of it, else None."""
    if len(set(names)) == len(names):
        return None
    seen = set()
    for name in names:
        if name in seen:
            return name
        seen.add(name)
    return None


def twice_wrong(chart, names):
    """The first name told twice: facts and stands share theirs, happenings have their own."""
    name = first_again([fact[0] for fact in chart[0]] + names)
    if name is None:
        name = first_again(chart[1])
    return None if name is None else ("twice", name)


def root_wrong(chart):
    """Whether the root can have no stands in it."""
    return None if chart[2][1] in FULL_SORTS else ("root",)


def first_wrong(tree):
    """The first one of which no stand can be its first."""
    for name, stand in tree.stands.items():
        if stand[1] == "one" and all([inner[1] in MARKER_SORTS for inner in stand[2]]):
            return ("first", name)
    return None


def misplaced(stand):
    """The names of the markers straight in the stand that may not stand there."""
    names = []
    seen = []
    for inner in stand[2]:
        if inner[1] in MARKER_SORTS:
            if stand[1] != "one" or inner[1] in seen:
                names.append(inner[0])
            seen.append(inner[1])
    return names


def marker_wrong(tree):
    """The first marker, in the chart's order, that may not stand where it does."""
    names = set()
    for stand in tree.stands.values():
        for name in misplaced(stand):
            names.add(name)
    for name in tree.names:
        if name in names:
            return ("marker", name)
    return None


def has_place_for_all(stand):
    """Whether a one or an all has stands as it may: a one another one than markers, and of these one of a sort; an all
    no markers."""
    sorts = [inner[1] for inner in stand[2]]
    if "back" not in sorts and "deep" not in sorts:
        return True
    backs, deeps = sorts.count("back"), sorts.count("deep")
    return stand[1] == "one" and backs <= 1 and deeps <= 1 and backs + deeps < len(sorts)


def place_wrong(tree):
    """What is wrong with the places of markers."""
    for stand in tree.stands.values():
        if stand[2] and not has_place_for_all(stand):
            return first_wrong(tree) or marker_wrong(tree)
    return None


def are_together(tree, goals):
    """Whether any two of the goals can be entered together."""
    for at, goal in enumerate(goals):
        for ahead in goals[:at]:
            if not tree.together(ahead, goal):
                return False
    return True


def names_word(tree, parts):
    """The word of what is wrong with the names that were found, else None."""
    if parts.strange_facts:
        return "fact"
    if parts.strange_happenings:
        return "happening"
    for name in parts.asked:
        if name not in tree.stands or tree.stands[name][1] in MARKER_SORTS:
            return "in"
    for goals in parts.goals:
        for goal in goals:
            # The root has no path, what is no stand has none at all.
            if not tree.paths.get(goal):
                return "goal"
        if len(goals) > 1 and not are_together(tree, goals):
            return "goal"
    return None


def may_be_done(stand):
    """Whether a done of the stand can come."""
    return stand[1] == "one" and "end" in [inner[1] for inner in stand[2]]


def row_word(chart, tree, stand, moves, deeds):
    """The word of what is wrong with moves of a stand, or with deeds of it, else None."""
    parts = parts_of(chart)
    parts.take(moves, deeds)
    word = names_word(tree, parts)
    return "done" if word is None and parts.dones and not may_be_done(stand) else word


def has_wrong_names(tree, parts):
    """Whether any row of a stand names what isn't there, or may not be named there; parts are those of all."""
    if names_word(tree, parts) is not None:
        return True
    dones = parts.dones
    if dones:
        for stand in tree.stands.values():
            if stand[5] and may_be_done(stand):
                dones -= [move[0] for move in stand[5]].count(DONE)
    return dones > 0


def name_wrong(chart, tree, parts):
    """The first row of a stand that names what isn't there, or may not be named there; parts are those of all."""
    if not has_wrong_names(tree, parts):
        return None
    for name, stand in tree.stands.items():
        rows = [((), stand[3]), ((), stand[4])] + [((move,), ()) for move in stand[5]]
        for k, row in enumerate(rows):
            word = row_word(chart, tree, stand, row[0], row[1])
            if word is not None:
                return (word, name, k)
    return None


def looked_over(thing):
    """What is wrong first with a thing, None where it is a chart; and the tree of its stands, where it has one."""
    wrong = outline_wrong(thing) or fact_wrong(thing) or happening_wrong(thing)
    if wrong is not None:
        return wrong, None
    gathered = Gathered()
    parts = parts_of(thing)
    if not gathered.take_all(thing[2]) or not are_names(gathered.names):
        return stand_wrong(thing), None
    tree = Tree(gathered.names, gathered.stands, gathered.paths)
    if not parts.take(gathered.moves, gathered.deeds) or not parts.has_names(tree.stands):
        return stand_wrong(thing), None
    wrong = (
        great_wrong(thing, gathered) or twice_wrong(thing, tree.names) or root_wrong(thing) or place_wrong(tree)
        or name_wrong(thing, tree, parts)
    )
    return wrong, tree
