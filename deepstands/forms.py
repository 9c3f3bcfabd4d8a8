"""The forms of what a chart is made of, whatever the names in it stand for."""

from deepstands.kinds import FULL_SORTS, GREATEST, MARKER_SORTS, SORTS, is_name, is_whole

MOST_WITHIN = 10
GREATEST_WAIT = 99
# By its word: what a thing is, then what stands behind the word.
FORMS = {
    "num": ("term", "number"),
    "fact": ("term", "name"),
    "sum": ("term", "term", "term"),
    "less": ("term", "term", "term"),
    "yes": ("guard",),
    "in": ("guard", "name"),
    "below": ("guard", "term", "term"),
    "same": ("guard", "term", "term"),
    "not": ("guard", "guard"),
    "both": ("guard", "guard", "guard"),
    "either": ("guard", "guard", "guard"),
    "set": ("deed", "name", "term"),
    "raise": ("deed", "name"),
    "say": ("deed", "name", "term"),
    "on": ("when", "name"),
    "after": ("when", "wait"),
    "done": ("when",),
}


def is_part(thing, kind, most):
    """Whether thing is of the kind, with at most so many guards and terms within one another."""
    if kind == "name":
        return is_name(thing)
    if kind == "number":
        return is_whole(thing) and 0 <= thing <= GREATEST
    if kind == "wait":
        return is_whole(thing) and 1 <= thing <= GREATEST_WAIT
    if kind in ("guard", "term"):
        return most > 0 and has_form(thing, kind, most - 1)
    return has_form(thing, kind, most)


def has_form(thing, kind, most):
    """Whether thing is a tuple of a word of the kind and of the parts that this word wants."""
    if not isinstance(thing, tuple) or len(thing) == 0 or not isinstance(thing[0], str):
        return False
    form = FORMS.get(thing[0], ("none",))
    if form[0] != kind or len(form) != len(thing):
        return False
    for part, wanted in zip(thing[1:], form[1:]):
        if not is_part(part, wanted, most):
            return False
    return True


def are_parts(thing, kind):
    """Whether thing is a tuple of things of the kind alone."""
    return isinstance(thing, tuple) and all([is_part(part, kind, MOST_WITHIN) for part in thing])


def is_move(thing):
    """Whether it is a MOVE."""
    if not isinstance(thing, tuple) or len(thing) != 4:
        return False
    when, guard, deeds, goals = thing
    if not is_part(when, "when", MOST_WITHIN) or not is_part(guard, "guard", MOST_WITHIN):
        return False
    return are_parts(deeds, "deed") and are_parts(goals, "name")


def is_fact(thing):
    """Whether it is a fact: its NAME, low, high, first."""
    if not isinstance(thing, tuple) or len(thing) != 4 or not is_name(thing[0]):
        return False
    for number in thing[1:]:
        if not is_whole(number) or abs(number) > GREATEST:
            return False
    return thing[1] <= thing[3] <= thing[2]


def is_happening(thing):
    """Whether it is a NAME that a happening may have."""
    return is_name(thing) and thing != "tick"


def is_stand(thing):
    """Whether it is a STAND by its own form, whatever the stands in it are."""
    if not isinstance(thing, tuple) or len(thing) != 6:
        return False
    name, sort, stands, into, out, moves = thing
    if not is_name(name) or sort not in SORTS or not isinstance(stands, tuple):
        return False
    if not are_parts(into, "deed") or not are_parts(out, "deed"):
        return False
    if not isinstance(moves, tuple) or not all([is_move(move) for move in moves]):
        return False
    if sort in MARKER_SORTS and (into, out, moves) != ((), (), ()):
        return False
    return (sort in FULL_SORTS) == (len(stands) > 0)
