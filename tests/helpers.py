"""What several test files build charts with."""

import random

YES = ("yes",)


def stand(name, sort="leaf", stands=(), into=(), out=(), moves=()):
    return (name, sort, tuple(stands), tuple(into), tuple(out), tuple(moves))


def one(name, *stands, **more):
    return stand(name, "one", stands, **more)


def both(name, *stands, **more):
    """A stand of sort all."""
    return stand(name, "all", stands, **more)


def move(when=("on", "h"), guard=YES, deeds=(), goals=()):
    return (when, guard, tuple(deeds), tuple(goals))


def chart(root, facts=(("a", 0, 9, 1),), happenings=("h",)):
    return (tuple(facts), tuple(happenings), root)


def chain(many, sort="one"):
    """Stands within one another, so many deep."""
    inner = stand(f"d{many}")
    for k in range(many - 1, 0, -1):
        inner = stand(f"d{k}", sort, (inner,))
    return inner


def term_of(deep):
    """A term of so many within one another."""
    term = ("num", 1)
    for _ in range(deep - 1):
        term = ("sum", term, ("num", 2))
    return term


def guard_of(deep, inner=YES):
    """A guard of so many within one another, not counting what stands in the innermost."""
    for _ in range(deep - 1):
        inner = ("not", inner)
    return inner


class Maker:
    """Charts by a number, the same for the same number."""

    def __init__(self, seed):
        self.by = random.Random(seed)
        self.facts = [f"f{k}" for k in range(self.by.randint(1, 4))]
        self.happenings = [f"h{k}" for k in range(self.by.randint(1, 3))]
        self.names = []

    def term(self, deep):
        pick = self.by.randint(0, 5) if deep > 1 else self.by.randint(0, 1)
        if pick == 0:
            return ("num", self.by.choice([0, 1, 7, 10, 999999999]))
        if pick == 1:
            return ("fact", self.by.choice(self.facts))
        return (self.by.choice(["sum", "less"]), self.term(deep - 1), self.term(deep - 1))

    def guard(self, deep):
        pick = self.by.randint(0, 9) if deep > 1 else 0
        if pick == 0:
            return YES
        if pick == 1:
            return ("in", "r")
        if pick <= 4:
            return (self.by.choice(["below", "same"]), self.term(deep - 1), self.term(deep - 1))
        if pick <= 6:
            return ("not", self.guard(deep - 1))
        return (self.by.choice(["both", "either"]), self.guard(deep - 1), self.guard(deep - 1))

    def deeds(self):
        made = []
        for _ in range(self.by.choice([0, 0, 1, 2, 3])):
            word = self.by.choice(["set", "raise", "say"])
            if word == "raise":
                made.append(("raise", self.by.choice(self.happenings)))
            elif word == "set":
                made.append(("set", self.by.choice(self.facts), self.term(4)))
            else:
                made.append(("say", self.by.choice(["s", "f0", "tick"]), self.term(4)))
        return tuple(made)

    def moves(self):
        made = []
        for _ in range(self.by.choice([0, 0, 1, 2])):
            when = self.by.choice([("on", self.by.choice(self.happenings)), ("after", self.by.randint(1, 99))])
            goals = (self.by.choice(self.names),) if self.names and self.by.randint(0, 1) else ()
            made.append((when, self.guard(5), self.deeds(), goals))
        return tuple(made)

    def stand(self, name, sort, deep):
        stands = []
        if sort in ("one", "all"):
            for k in range(self.by.randint(1, 3)):
                inner = self.by.choice(["leaf", "end", "one", "all"]) if deep > 1 else "leaf"
                stands.append(self.stand(f"{name}{k}", inner, deep - 1))
        if sort == "one" and self.by.randint(0, 1):
            stands.insert(self.by.randint(0, len(stands)), stand(name + "b", "back"))
        if sort == "one" and self.by.randint(0, 1):
            stands.insert(self.by.randint(0, len(stands)), stand(name + "d", "deep"))
        made = (name, sort, tuple(stands), self.deeds(), self.deeds(), self.moves())
        self.names.append(name)
        return made

    def chart(self):
        root = self.stand("r", self.by.choice(["one", "all"]), 4)
        facts = []
        for name in self.facts:
            low, first, high = sorted([self.by.choice([-999999999, -3, 0, 0, 4, 999999999]) for _ in range(3)])
            facts.append((name, low, high, first))
        return (tuple(facts), tuple(self.happenings), root)
