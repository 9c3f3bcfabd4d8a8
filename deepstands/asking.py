"""Whether a thing is a saying of a chart, else where it is none first."""

from deepstands.kinds import GREATEST, is_name, is_whole
from deepstands.parts import GREATEST_WAIT, MOST_WITHIN

# By their words what stands behind these, by the kinds of things that do.
SAYINGS = {
    "never": ("guard",),
    "unsaid": ("name",),
    "unrefused": ("when",),
    "behind": ("when", "guard", "guard"),
    "before": ("guard", "guard"),
    "within": ("guard", "guard", "wait"),
    "can": ("guard", "guard"),
}
GUARDS = {
    "yes": (),
    "in": ("stand",),
    "below": ("term", "term"),
    "same": ("term", "term"),
    "not": ("guard",),
    "both": ("guard", "guard"),
    "either": ("guard", "guard"),
}
TERMS = {
    "num": ("number",),
    "fact": ("fact",),
    "sum": ("term", "term"),
    "less": ("term", "term"),
}


def is_single(plan, kind, thing):
    """Whether a thing with no others in it is of its kind."""
    if kind == "number":
        return is_whole(thing) and 0 <= thing <= GREATEST
    if kind == "wait":
        return is_whole(thing) and 0 <= thing <= GREATEST_WAIT
    if kind == "when":
        return thing is None or plan.knows_happening(thing)
    if kind == "fact":
        return isinstance(thing, str) and thing in plan.fields
    if kind == "stand":
        return plan.tree.is_plain(thing)
    return is_name(thing)


def kinds_behind(kind, thing):
    """The kinds of what stands behind the word of a saying, a guard or a term; None where the thing is none."""
    if not isinstance(thing, tuple) or not thing or not isinstance(thing[0], str):
        return None
    if kind == "guard":
        kinds = GUARDS.get(thing[0])
    elif kind == "term":
        kinds = TERMS.get(thing[0])
    else:
        kinds = SAYINGS.get(thing[0])
    return kinds if kinds is not None and len(thing) == len(kinds) + 1 else None


def wrong_path(plan, kind, thing, path, deep):
    """The path of the first that is none in a thing of a kind, so many deep within others, None where all are some."""
    if kind not in ("saying", "guard", "term"):
        return None if is_single(plan, kind, thing) else path
    kinds = kinds_behind(kind, thing)
    if kinds is None or deep > MOST_WITHIN:
        return path
    for k, inner in enumerate(kinds):
        wrong = wrong_path(plan, inner, thing[k + 1], path + (k + 1,), deep + 1)
        if wrong is not None:
            return wrong
    return None


def saying_path(plan, thing):
    """None where a thing is a saying of a plan's chart, else the path of the first that is none."""
    # A saying is none of the guards and terms that are counted within one another.
    return wrong_path(plan, "saying", thing, (), 0)
