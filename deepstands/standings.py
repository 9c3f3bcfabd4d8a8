"""Standings: whether a thing is one, and the states that they tell of."""

from deepstands.errors import NoStanding
from deepstands.kinds import MARKER_SORTS, is_whole


def are_inside(plan, top, names):
    """Whether these are the names of all that may be stood in properly within a stand at one time, in order; each of
    the tuple may be anything."""
    above = plan.tree.above
    # How many stands straight in it are stood in, of each that is.
    many_in = {top: 0}
    behind = top
    for name in names:
        number = plan.numbers.get(name) if isinstance(name, str) else None
        if number is None or number <= behind or above[number] not in many_in:
            return False
        many_in[above[number]] += 1
        many_in[number] = 0
        behind = number
    for number, many in many_in.items():
        _, sort, inner, _, _, _ = plan.stands[number]
        # There are no markers straight in an all.
        if sort in MARKER_SORTS or sort == "one" and many != 1 or sort == "all" and many != len(inner):
            return False
    return True


def are_stood(plan, names):
    """Whether these are the names of all that may be stood in at one time, in order."""
    return names[:1] == (plan.names[0],) and are_inside(plan, 0, names[1:])


def are_worths(plan, worths):
    """Whether each fact has a worth in its span."""
    if len(worths) != len(plan.facts):
        return False
    for fact, worth in zip(plan.facts, worths):
        if not is_whole(worth) or not fact[1] <= worth <= fact[2]:
            return False
    return True


def are_ages(plan, stood, ages):
    """Whether each stand stood in that has a move by after has an age, and no other."""
    greatest = plan.tree.greatest
    aging = [name for name in stood if plan.numbers[name] in greatest] if greatest else []
    if len(ages) != len(aging):
        return False
    for name, pair in zip(aging, ages):
        if not isinstance(pair, tuple) or len(pair) != 2 or pair[0] != name:
            return False
        if not is_whole(pair[1]) or not 0 <= pair[1] <= greatest[plan.numbers[name]] + 1:
            return False
    return True


def may_keep(plan, number, names):
    """Whether the stand is a marker, and may keep a tuple of these names, which may be anything."""
    one = plan.tree.above[number]
    if plan.stands[number][1] == "back":
        return len(names) == 1 and names[0] in [plan.names[k] for k in plan.inner(one)]
    return plan.stands[number][1] == "deep" and are_inside(plan, one, names)


def are_kept(plan, kept):
    """Whether markers, each once and in order, keep what they may."""
    behind = -1
    for pair in kept:
        if not isinstance(pair, tuple) or len(pair) != 2:
            return False
        name, names = pair
        if not isinstance(name, str) or not isinstance(names, tuple):
            return False
        number = plan.numbers.get(name, -1)
        if number <= behind or not may_keep(plan, number, names):
            return False
        behind = number
    return True


def fault_of(plan, thing):
    """What is wrong first with a thing, None where it is a standing."""
    if not isinstance(thing, tuple) or len(thing) != 4:
        return ("form",)
    stood, worths, ages, kept = thing
    if not isinstance(stood, tuple) or not isinstance(worths, tuple):
        return ("form",)
    if not isinstance(ages, tuple) or not isinstance(kept, tuple):
        return ("form",)
    if not are_stood(plan, stood):
        return ("stood",)
    if not are_worths(plan, worths):
        return ("worths",)
    if not are_ages(plan, stood, ages):
        return ("ages",)
    return None if are_kept(plan, kept) else ("kept",)


def last_stood(plan, stood):
    """The names of those of what is stood in that have none stood in in them."""
    return [name for name in stood if plan.tree.last[plan.numbers[name]] == plan.numbers[name]]


def state_of(plan, standing):
    """The state that a standing tells of."""
    stood, worths, ages, kept = standing
    numbers = plan.numbers
    return (
        plan.scene_of(tuple([numbers[name] for name in stood])),
        {fact[0]: worth for fact, worth in zip(plan.facts, worths)},
        {numbers[name]: age for name, age in ages},
        {numbers[name]: tuple([numbers[inner] for inner in names]) for name, names in kept},
    )


def state_for(plan, standing):
    """The state that a standing tells of; what is none is refused."""
    wrong = fault_of(plan, standing)
    if wrong is not None:
        raise NoStanding(wrong)
    return state_of(plan, standing)


def standing_of(plan, state):
    """The standing that tells of a state."""
    scene, worths, ages, kept = state
    names = plan.names
    return (
        scene.names,
        tuple(worths.values()),
        tuple([(names[number], age) for number, age in ages.items()]),
        tuple([(names[number], tuple([names[inner] for inner in kept[number]])) for number in sorted(kept)]),
    )


def key_of(state):
    """What a state is known by among those of one plan: two have the same just where they tell of one standing."""
    scene, worths, ages, kept = state
    return (scene, tuple(worths.values()), tuple(ages.values()), tuple(sorted(kept.items())))
