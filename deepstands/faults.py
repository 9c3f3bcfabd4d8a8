"""The first that is wrong with a thing that is no chart. Each function takes for granted that those ahead of it found
nothing."""

from deepstands.kinds import FULL_SORTS, GREATEST, MARKER_SORTS, is_name, is_whole
from deepstands.parts import Parts
from deepstands.tree import MOST_DEEP, Tree

MOST_FACTS = 12
MOST_HAPPENINGS = 20
MOST_STANDS = 60
MOST_MOVES = 120


def has_outline(thing):
    """Whether it is a tuple of three, the first two tuples."""
    if not isinstance(thing, tuple) or len(thing) != 3:
        return False
    return isinstance(thing[0], tuple) and isinstance(thing[1], tuple)


def outline_wrong(thing):
    """Whether it is made as no chart is."""
    return None if has_outline(thing) else ("chart",)


def is_fact(thing):
    """Whether it is a fact: its NAME, low, high, first."""
    if not isinstance(thing, tuple) or len(thing) != 4:
        return False
    name, low, high, first = thing
    if not is_name(name) or not is_whole(low) or not is_whole(high) or not is_whole(first):
        return False
    return -GREATEST <= low <= first <= high <= GREATEST


def fact_wrong(chart):
    """The first fact that is none."""
    for k, fact in enumerate(chart[0]):
        if not is_fact(fact):
            return ("fact", k)
    return None


def happening_wrong(chart):
    """The first happening that is none."""
    for k, happening in enumerate(chart[1]):
        if not is_name(happening) or happening == "tick":
            return ("happening", k)
    return None


def parts_of(chart):
    """Where to note what stands of the chart are made of."""
    return Parts(tuple([fact[0] for fact in chart[0]]), chart[1])


def has_form(stand):
    """Whether it is made as a stand of its sort is, its moves and deeds and the stands in it left out."""
    if not isinstance(stand, tuple) or len(stand) != 6 or not is_name(stand[0]):
        return False
    if not all([isinstance(part, tuple) for part in stand[2:]]):
        return False
    if stand[1] in FULL_SORTS:
        return len(stand[2]) > 0
    if stand[1] in MARKER_SORTS:
        return stand[2:] == ((), (), (), ())
    return stand[1] in ("leaf", "end") and stand[2] == ()


def is_stand(chart, stand):
    """Whether it is a stand by its own form, whatever the stands in it are."""
    if not has_form(stand):
        return False
    parts = parts_of(chart)
    return parts.take(stand[5], stand[3] + stand[4]) and parts.are_named()


def stand_wrong(chart):
    """The first stand that is none by its own form."""
    waiting = [((), chart[2])]
    while waiting:
        address, stand = waiting.pop()
        if not is_stand(chart, stand):
            return ("stand", address)
        inner = [(address + (k,), thing) for k, thing in enumerate(stand[2])]
        waiting.extend(inner[::-1])
    return None


def stands_of(chart):
    """All stands in the chart's order, each with how deep it is."""
    told = []
    waiting = [(chart[2], 1)]
    while waiting:
        stand, deep = waiting.pop()
        told.append((stand, deep))
        waiting.extend([(inner, deep + 1) for inner in stand[2][::-1]])
    return told


def great_wrong(chart):
    """Whether there is more of something than a chart may have."""
    stands = stands_of(chart)
    if len(chart[0]) > MOST_FACTS or len(chart[1]) > MOST_HAPPENINGS or len(stands) > MOST_STANDS:
        return ("great",)
    many_moves = sum([len(stand[5]) for stand, _ in stands])
    deepest = max([deep for _, deep in stands])
    return ("great",) if deepest > MOST_DEEP or many_moves > MOST_MOVES else None


def first_again(names):
    """The first name that has one like it ahead of it, else None."""
    seen = set()
    for name in names:
        if name in seen:
            return name
        seen.add(name)
    return None


def twice_wrong(chart):
    """The first name told twice: facts and stands share theirs, happenings have their own."""
    name = first_again([fact[0] for fact in chart[0]] + [stand[0] for stand, _ in stands_of(chart)])
    if name is None:
        name = first_again(chart[1])
    return None if name is None else ("twice", name)


def root_wrong(chart):
    """Whether the root can have no stands in it."""
    return None if chart[2][1] in FULL_SORTS else ("root",)


def first_wrong(chart):
    """The first one of which no stand can be its first."""
    for stand, _ in stands_of(chart):
        if stand[1] == "one" and all([inner[1] in MARKER_SORTS for inner in stand[2]]):
            return ("first", stand[0])
    return None


def misplaced(stand):
    """The names of the markers straight in the stand that may not stand there."""
    names = []
    seen = []
    for inner in stand[2]:
        if inner[1] in MARKER_SORTS:
            if stand[1] != "one" or inner[1] in seen:
                names.append(inner[0])
            seen.append(inner[1])
    return names


def marker_wrong(chart):
    """The first marker, in the chart's order, that may not stand where it does."""
    stands = [stand for stand, _ in stands_of(chart)]
    names = [name for stand in stands for name in misplaced(stand)]
    for stand in stands:
        if stand[0] in names:
            return ("marker", stand[0])
    return None


def are_together(tree, goals):
    """Whether any two of the goals can be entered together."""
    # The least stand that has two of them is that of two others that stand between these, or has it in it: so only
    # those that are next to one another in the chart's order are looked at.
    numbers = sorted([tree.numbers[goal] for goal in goals])
    for one, other in zip(numbers, numbers[1:]):
        if not tree.together(one, other):
            return False
    return True


def names_word(tree, parts):
    """The word of what is wrong with the names that were found, else None."""
    numbers = tree.numbers
    if parts.strange_facts:
        return "fact"
    if parts.strange_happenings:
        return "happening"
    for name in parts.asked:
        if not isinstance(name, str) or name not in numbers:
            return "in"
        if tree.markers and tree.stands[numbers[name]][1] in MARKER_SORTS:
            return "in"
    for goals in parts.goals:
        for goal in goals:
            # Number 0, the root's, is no goal's either.
            if not isinstance(goal, str) or not numbers.get(goal):
                return "goal"
        if len(goals) > 1 and not are_together(tree, goals):
            return "goal"
    return None


def row_word(chart, tree, number, moves, deeds):
    """The word of what is wrong with moves of a stand, or with deeds of it, else None."""
    parts = parts_of(chart)
    parts.take(moves, deeds)
    word = names_word(tree, parts)
    return "done" if word is None and parts.done_movers and not tree.may_be_done(number) else word


def name_wrong(chart):
    """The first row of a stand that names what isn't there, or may not be named there."""
    tree = Tree()
    tree.take_stands((chart[2],), None, 1, [])
    for number, stand in enumerate(tree.stands):
        rows = [((), stand[3]), ((), stand[4])] + [((move,), ()) for move in stand[5]]
        for k, row in enumerate(rows):
            word = row_word(chart, tree, number, row[0], row[1])
            if word is not None:
                return (word, stand[0], k)
    return None


def first_fault(thing):
    """What is wrong first with a thing, None where it is a chart."""
    return (
        outline_wrong(thing) or fact_wrong(thing) or happening_wrong(thing) or stand_wrong(thing) or great_wrong(thing)
        or twice_wrong(thing) or root_wrong(thing) or first_wrong(thing) or marker_wrong(thing) or name_wrong(thing)
    )
