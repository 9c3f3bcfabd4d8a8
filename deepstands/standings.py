"""Standings: whether a thing is one, and the states that they tell of."""

from deepstands.kinds import is_whole


def is_inside(plan, top, names):
    """Whether these are the names of all that may be stood in properly within a stand at one time, in order; each of
    the tuple may be anything."""
    found = []
    opened = [top]
    while opened:
        number = opened.pop()
        inner = plan.inner[number]
        if plan.sorts[number] == "one":
            inner = [k for k in inner if plan.names[k] in names]
            if len(inner) != 1:
                return False
        found.extend(inner)
        opened.extend(inner)
    return tuple([plan.names[k] for k in sorted(found)]) == names


def are_stood(plan, names):
    """Whether these are the names of all that may be stood in at one time, in order."""
    return names[:1] == (plan.names[0],) and is_inside(plan, 0, names[1:])


def are_worths(plan, worths):
    """Whether each fact has a worth in its span."""
    if len(worths) != len(plan.facts):
        return False
    for fact, worth in zip(plan.facts, worths):
        if not is_whole(worth) or not fact[1] <= worth <= fact[2]:
            return False
    return True


def are_ages(plan, stood, ages):
    """Whether each stand stood in that has a move by after has an age, and no other."""
    numbers = [plan.numbers[name] for name in stood]
    aging = [number for number in numbers if number in plan.greatest]
    if len(ages) != len(aging):
        return False
    for number, pair in zip(aging, ages):
        if not isinstance(pair, tuple) or len(pair) != 2 or pair[0] != plan.names[number]:
            return False
        if not is_whole(pair[1]) or not 0 <= pair[1] <= plan.greatest[number] + 1:
            return False
    return True


def may_keep(plan, number, names):
    """Whether the stand is a marker, and may keep a tuple of these names, which may be anything."""
    one = plan.above[number]
    if plan.sorts[number] == "back":
        return len(names) == 1 and names[0] in [plan.names[k] for k in plan.inner[one]]
    return plan.sorts[number] == "deep" and is_inside(plan, one, names)


def are_kept(plan, kept):
    """Whether markers, each once and in order, keep what they may."""
    behind = -1
    for pair in kept:
        if not isinstance(pair, tuple) or len(pair) != 2:
            return False
        name, names = pair
        if not isinstance(name, str) or not isinstance(names, tuple):
            return False
        number = plan.numbers.get(name, -1)
        if number <= behind or not may_keep(plan, number, names):
            return False
        behind = number
    return True


def fault_of(plan, thing):
    """What is wrong first with a thing, None where it is a standing."""
    if not isinstance(thing, tuple) or len(thing) != 4 or not all([isinstance(part, tuple) for part in thing]):
        return ("form",)
    stood, worths, ages, kept = thing
    if not are_stood(plan, stood):
        return ("stood",)
    if not are_worths(plan, worths):
        return ("worths",)
    if not are_ages(plan, stood, ages):
        return ("ages",)
    return None if are_kept(plan, kept) else ("kept",)


def state_of(plan, standing):
    """The state that a standing tells of."""
    stood, worths, ages, kept = standing
    numbers = plan.numbers
    return (
        [numbers[name] for name in stood],
        {fact[0]: worth for fact, worth in zip(plan.facts, worths)},
        {numbers[name]: age for name, age in ages},
        {numbers[name]: tuple([numbers[inner] for inner in names]) for name, names in kept},
    )


def standing_of(plan, state):
    """The standing that tells of a state."""
    stood, worths, ages, kept = state
    names = plan.names
    return (
        tuple([names[number] for number in stood]),
        tuple([worths[fact[0]] for fact in plan.facts]),
        tuple([(names[number], ages[number]) for number in sorted(ages)]),
        tuple([(names[number], tuple([names[inner] for inner in kept[number]])) for number in sorted(kept)]),
    )
