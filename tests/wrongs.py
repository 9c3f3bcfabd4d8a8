"""What is wrong first with a thing, told once more, stand by stand and row by row, as point 10 says it: what chart_wrong
tells is held against this."""

import re

from deepstands.kinds import KEYWORDS

NAME = re.compile(r"[a-z][a-z0-9]{0,7}")
GREATEST = 999999999


def is_name(thing):
    return type(thing) is str and NAME.fullmatch(thing) is not None and thing not in KEYWORDS


def is_number(thing, low, high):
    return type(thing) is int and low <= thing <= high


def is_tuple(thing, many=None):
    return type(thing) is tuple and (many is None or len(thing) == many)


def is_term(thing, deep=1):
    if deep > 10 or not is_tuple(thing) or not thing:
        return False
    if thing[0] == "num":
        return len(thing) == 2 and is_number(thing[1], 0, GREATEST)
    if thing[0] == "fact":
        return len(thing) == 2 and is_name(thing[1])
    return thing[0] in ("sum", "less") and len(thing) == 3 and all(is_term(inner, deep + 1) for inner in thing[1:])


def is_guard(thing, deep=1):
    if deep > 10 or not is_tuple(thing) or not thing:
        return False
    if thing[0] in ("below", "same"):
        return len(thing) == 3 and all(is_term(inner, deep + 1) for inner in thing[1:])
    if thing[0] in ("both", "either"):
        return len(thing) == 3 and all(is_guard(inner, deep + 1) for inner in thing[1:])
    if thing[0] == "not":
        return len(thing) == 2 and is_guard(thing[1], deep + 1)
    return thing == ("yes",) or thing[0] == "in" and len(thing) == 2 and is_name(thing[1])


def is_deed(thing):
    if is_tuple(thing, 2):
        return thing[0] == "raise" and is_name(thing[1])
    return is_tuple(thing, 3) and thing[0] in ("set", "say") and is_name(thing[1]) and is_term(thing[2])


def is_when(thing):
    if is_tuple(thing, 2):
        return thing[0] == "on" and is_name(thing[1]) or thing[0] == "after" and is_number(thing[1], 1, 99)
    return thing == ("done",) and is_tuple(thing)


def is_move(thing):
    if not is_tuple(thing, 4) or not is_when(thing[0]) or not is_guard(thing[1]):
        return False
    return is_tuple(thing[2]) and all(map(is_deed, thing[2])) and is_tuple(thing[3]) and all(map(is_name, thing[3]))


def is_stand(thing):
    if not is_tuple(thing, 6) or not is_name(thing[0]) or not all(map(is_tuple, thing[2:])):
        return False
    if type(thing[1]) is not str or thing[1] not in ("one", "all", "leaf", "end", "back", "deep"):
        return False
    if (thing[1] in ("one", "all")) != bool(thing[2]) or thing[1] in ("back", "deep") and thing[2:] != ((),) * 4:
        return False
    return all(map(is_deed, thing[3] + thing[4])) and all(map(is_move, thing[5]))


def stand_wrong(thing, address=()):
    if not is_stand(thing):
        return ("stand", address)
    return next(filter(None, (stand_wrong(inner, address + (k,)) for k, inner in enumerate(thing[2]))), None)


def is_fact(thing):
    if not is_tuple(thing, 4) or not is_name(thing[0]) or not all(is_number(x, -GREATEST, GREATEST) for x in thing[1:]):
        return False
    return thing[1] <= thing[3] <= thing[2]


def ways(stand, ahead=()):
    """All stands in order, each as the tuple of those that it stands in and itself."""
    way = ahead + (stand,)
    return [way] + [found for inner in stand[2] for found in ways(inner, way)]


def first_again(names):
    return next((name for k, name in enumerate(names) if name in names[:k]), None)


def asked(thing, word):
    """All that stands behind a word in guards, terms and deeds."""
    if not is_tuple(thing):
        return []
    own = [thing[1]] if len(thing) > 1 and thing[0] == word and type(thing[0]) is str else []
    return own + [name for inner in thing for name in asked(inner, word)]


class Names:
    """The names of a chart, all stands of which are some by their own form."""

    def __init__(self, chart):
        self.facts = [fact[0] for fact in chart[0]]
        self.happenings = chart[1]
        self.ways = {way[-1][0]: way for way in ways(chart[2])}

    def are_apart(self, one, other):
        first, second = self.ways[one], self.ways[other]
        many = 0
        while many < min(len(first), len(second)) and first[many] == second[many]:
            many += 1
        return many == min(len(first), len(second)) or first[many - 1][1] != "all"

    def goals_are_wrong(self, goals):
        if any(goal not in self.ways or len(self.ways[goal]) == 1 for goal in goals):
            return True
        return any(self.are_apart(one, other) for k, one in enumerate(goals) for other in goals[k + 1:])

    def word(self, stand, whens, guards, deeds, goals):
        facts = [name for x in guards + deeds for name in asked(x, "fact")] + [x[1] for x in deeds if x[0] == "set"]
        if any(name not in self.facts for name in facts):
            return "fact"
        happenings = [when[1] for when in whens if when[0] == "on"] + [x[1] for x in deeds if x[0] == "raise"]
        if any(name not in self.happenings for name in happenings):
            return "happening"
        for name in [name for guard in guards for name in asked(guard, "in")]:
            if name not in self.ways or self.ways[name][-1][1] in ("back", "deep"):
                return "in"
        if self.goals_are_wrong(goals):
            return "goal"
        if ("done",) in whens and (stand[1] != "one" or "end" not in [inner[1] for inner in stand[2]]):
            return "done"
        return None


def marker_wrong(way):
    stand = way[-1]
    if stand[1] not in ("back", "deep"):
        return False
    if len(way) == 1 or way[-2][1] != "one":
        return True
    return [inner[0] for inner in way[-2][2] if inner[1] == stand[1]][0] != stand[0]


def late_wrong(chart):
    """What is wrong first where all stands are some by their own form."""
    facts, happenings, root = chart
    found = ways(root)
    stands = [way[-1] for way in found]
    if len(facts) > 12 or len(happenings) > 20 or len(stands) > 60 or max(map(len, found)) > 10:
        return ("great",)
    if sum(len(stand[5]) for stand in stands) > 120:
        return ("great",)
    again = first_again([fact[0] for fact in facts] + [stand[0] for stand in stands]) or first_again(happenings)
    if again:
        return ("twice", again)
    if root[1] not in ("one", "all"):
        return ("root",)
    for stand in stands:
        if stand[1] == "one" and all(inner[1] in ("back", "deep") for inner in stand[2]):
            return ("first", stand[0])
    for way in found:
        if marker_wrong(way):
            return ("marker", way[-1][0])
    names = Names(chart)
    for stand in stands:
        rows = [((), (), deeds, ()) for deeds in stand[3:5]]
        rows += [((when,), (guard,), deeds, goals) for when, guard, deeds, goals in stand[5]]
        for k, (whens, guards, deeds, goals) in enumerate(rows):
            word = names.word(stand, whens, guards, deeds, goals)
            if word:
                return (word, stand[0], k)
    return None


def wrong_of(thing):
    """What chart_wrong must tell."""
    if not is_tuple(thing, 3) or not is_tuple(thing[0]) or not is_tuple(thing[1]):
        return ("chart",)
    for k, fact in enumerate(thing[0]):
        if not is_fact(fact):
            return ("fact", k)
    for k, happening in enumerate(thing[1]):
        if not is_name(happening) or happening == "tick":
            return ("happening", k)
    return stand_wrong(thing[2]) or late_wrong(thing)
