"""Steps told once more, slowly and by names alone, word by word as points 12 to 16 say them: what the program tells is
held against this."""

import random


class Refused(Exception):
    """A refusal: its word, then its fields."""


class Plain:
    """A chart, and a run in it: stood a set of names, worths, ages and kept dicts by names."""

    def __init__(self, chart):
        self.facts, self.happenings, self.root = chart
        self.order, self.up, self.stand, self.over = [], [], {}, {}
        self.enlist(self.root, [])

    def enlist(self, stand, over):
        self.order.append(stand[0])
        self.stand[stand[0]] = stand
        self.over[stand[0]] = over
        for inner in stand[2]:
            self.enlist(inner, over + [stand[0]])
        self.up.append(stand[0])

    def sort(self, name):
        return self.stand[name][1]

    def within(self, one):
        return {name for name in self.order if one in self.over[name]}

    def plain_in(self, name):
        return [inner[0] for inner in self.stand[name][2] if inner[1] not in ("back", "deep")]

    def greatest(self, name):
        return max([move[0][1] for move in self.stand[name][5] if move[0][0] == "after"], default=None)

    def load(self, standing):
        self.stood = set(standing[0])
        self.worths = {fact[0]: worth for fact, worth in zip(self.facts, standing[1])}
        self.ages = dict(standing[2])
        self.kept = dict(standing[3])
        self.row, self.said, self.told, self.many = [], [], [], 0
        return self

    def standing(self):
        in_order = [name for name in self.order if name in self.stood]
        return (tuple(in_order), tuple(self.worths[fact[0]] for fact in self.facts),
                tuple((name, self.ages[name]) for name in in_order if self.greatest(name) is not None),
                tuple((name, self.kept[name]) for name in self.order if name in self.kept))

    def term(self, t):
        if t[0] in ("num", "fact"):
            return t[1] if t[0] == "num" else self.worths[t[1]]
        return self.term(t[1]) + (self.term(t[2]) if t[0] == "sum" else -self.term(t[2]))

    def holds(self, g):
        return {
            "yes": lambda: True, "in": lambda: g[1] in self.stood, "not": lambda: not self.holds(g[1]),
            "both": lambda: self.holds(g[1]) and self.holds(g[2]),
            "either": lambda: self.holds(g[1]) or self.holds(g[2]),
            "below": lambda: self.term(g[1]) < self.term(g[2]),
            "same": lambda: self.term(g[1]) == self.term(g[2]),
        }[g[0]]()

    def is_by(self, name, when, what):
        if when[0] == "on":
            return what == when
        if when[0] == "after":
            return what == ("tick",) and self.ages[name] == when[1]
        return what == ("done", name) and any(
            inner[1] == "end" and inner[0] in self.stood for inner in self.stand[name][2])

    def fits(self, what):
        return [(name, k) for name in self.order if name in self.stood for k, move in enumerate(self.stand[name][5])
                if self.is_by(name, move[0], what) and self.holds(move[1])]

    def room(self, name, k):
        goals = self.stand[name][5][k][3]
        for one in self.order[::-1]:
            if self.sort(one) == "one" and {name, *goals} <= self.within(one):
                return one
        return self.root[0]

    def left_by(self, name, k):
        return self.within(self.room(name, k)) & self.stood if self.stand[name][5][k][3] else set()

    def chosen(self, what):
        told, left, fits = [], set(), self.fits(what)
        for name in self.up:
            of_it = [address for address in fits if address[0] == name]
            if not of_it or any(other in self.within(name) for other, _ in told):
                continue
            if not self.left_by(*of_it[0]) & left:
                told.append(of_it[0])
                left |= self.left_by(*of_it[0])
        return told

    def take(self, what):
        chosen = self.chosen(what)
        going = [address for address in chosen if self.stand[address[0]][5][address[1]][3]]
        left = set().union(*[self.left_by(*address) for address in going])
        for name in left:
            for marker in self.stand[name][2]:
                stood = self.within(name) & self.stood
                if marker[1] == "back":
                    stood &= set(self.plain_in(name))
                if marker[1] in ("back", "deep"):
                    self.kept[marker[0]] = tuple(x for x in self.order if x in stood)
        in_back_order = [name for name in self.order[::-1] if name in left]
        for name in in_back_order:
            self.do(name, self.stand[name][4])
        for name, k in chosen:
            self.do(name, self.stand[name][5][k][2])
        self.stood -= left
        entered = set()
        for name, k in going:
            entered |= self.entered(self.room(name, k), self.stand[name][5][k][3])
        self.told.append((what, chosen, in_back_order, self.enter(entered)))

    def entered(self, room, goals):
        told, called = set(), {}
        for goal in goals:
            if self.sort(goal) in ("back", "deep"):
                goal, marker = self.over[goal][-1], goal
                called[goal] = marker
            if goal != room:
                told |= {goal} | (set(self.over[goal]) & self.within(room))
        while True:
            more = set()
            for name in sorted(told | {room}):
                inner = self.plain_in(name)
                if self.sort(name) == "all":
                    more |= {x for x in inner if not (self.within(x) | {x}) & told}
                elif self.sort(name) == "one" and not set(inner) & told:
                    more |= set(self.kept.get(called.get(name), inner[:1]))
            if more <= told:
                return told
            told |= more

    def enter(self, names):
        in_order = [name for name in self.order if name in names]
        self.stood |= names
        for name in in_order:
            self.ages[name] = 0
            self.do(name, self.stand[name][3])
            if self.sort(name) == "end" and self.sort(self.over[name][-1]) == "one":
                self.row.append(("done", self.over[name][-1]))
        return in_order

    def do(self, name, deeds):
        for deed in deeds:
            if deed[0] == "raise":
                self.row.append(("on", deed[1]))
                continue
            worth = self.term(deed[2])
            if deed[0] == "say":
                self.said.append((deed[1], worth))
                continue
            low, high = [fact[1:3] for fact in self.facts if fact[0] == deed[1]][0]
            if worth < low or worth > high:
                raise Refused("Beyond", deed[1], name)
            self.worths[deed[1]] = worth

    def finish(self):
        while self.row:
            self.many += 1
            if self.many == 51:
                raise Refused("Endless")
            self.take(self.row.pop(0))
        return self.standing(), self.said

    def start(self):
        self.load(((), tuple(fact[3] for fact in self.facts), (), ()))
        root = self.root[0]
        self.told.append((("start",), [], [], self.enter({root} | self.entered(root, ()))))
        return self.finish()

    def step(self, standing, happening):
        self.load(standing)
        if happening == "tick":
            for name in self.ages:
                self.ages[name] = min(self.ages[name] + 1, self.greatest(name) + 1)
        self.take(("tick",) if happening == "tick" else ("on", happening))
        return self.finish()

    def some_inside(self, by, top):
        """All that is stood in within a stand, by chance."""
        inner = self.plain_in(top)
        if self.sort(top) == "one":
            inner = [by.choice(inner)]
        return {name for x in inner for name in {x} | self.some_inside(by, x)}

    def some_standing(self, by):
        """A standing, by chance, whether a run comes to it or not."""
        root = self.root[0]
        self.stood = {root} | self.some_inside(by, root)
        self.worths = {name: by.randint(low, high) for name, low, high, _ in self.facts}
        self.ages = {name: by.randint(0, self.greatest(name) + 1) for name in self.order
                     if name in self.stood and self.greatest(name) is not None}
        self.kept = {}
        for name in self.order:
            if self.sort(name) in ("back", "deep") and by.randint(0, 1):
                one = self.over[name][-1]
                kept = self.some_inside(by, one)
                if self.sort(name) == "back":
                    kept &= set(self.plain_in(one))
                self.kept[name] = tuple(x for x in self.order if x in kept)
        return self.standing()


class Wild:
    """Charts by a number of which every kind of stand, move and deed is likely."""

    def __init__(self, seed):
        self.by = random.Random(seed)
        self.many = 0
        self.facts = [f"f{k}" for k in range(self.by.randint(1, 3))]
        self.happenings = [f"h{k}" for k in range(self.by.choice([1, 1, 2, 3]))]

    def skeleton(self, sort, deep):
        name = f"{sort[0]}{self.many}"
        self.many += 1
        stands = []
        if sort in ("one", "all"):
            for _ in range(self.by.choice([1, 2, 2, 3])):
                full = ["one", "one", "all", "all"] if deep > 1 and self.many < 18 else []
                stands.append(self.skeleton(self.by.choice(["leaf", "leaf", "end"] + full), deep - 1))
            for marker in ("back", "deep"):
                if sort == "one" and self.by.randint(0, 2) == 0:
                    stands.insert(self.by.randint(0, len(stands)), self.skeleton(marker, 1))
        return [name, sort, stands]

    def term(self, deep=3):
        pick = self.by.randint(0, 4 if deep > 1 else 2)
        if pick <= 1:
            return ("num", self.by.choice([0, 1, 1, 2, 3]))
        if pick == 2:
            return ("fact", self.by.choice(self.facts))
        return (self.by.choice(["sum", "less"]), self.term(deep - 1), self.term(deep - 1))

    def guard(self, deep=3):
        pick = self.by.randint(0, 7 if deep > 1 else 3)
        if pick <= 1:
            return ("yes",)
        if pick == 2:
            return ("in", self.by.choice([x for x in self.plain.order if self.plain.sort(x) not in ("back", "deep")]))
        if pick == 3:
            return (self.by.choice(["below", "same"]), self.term(), self.term())
        if pick <= 5:
            return ("not", self.guard(deep - 1))
        return (self.by.choice(["both", "either"]), self.guard(deep - 1), self.guard(deep - 1))

    def deeds(self, most=2):
        made = []
        for _ in range(self.by.randint(0, most)):
            pick = self.by.randint(0, 8)
            if pick == 0:
                made.append(("raise", self.by.choice(self.happenings)))
            elif pick <= 3:
                more = ("sum", ("fact", self.by.choice(self.facts)), ("num", 1))
                made.append(("set", self.by.choice(self.facts), self.by.choice([more, ("num", 1)])))
            else:
                made.append(("say", self.by.choice(["s", "tick", "f0"]), self.term()))
        return tuple(made)

    def goals(self):
        plain, told = self.plain, []
        for _ in range(self.by.choice([0, 1, 1, 1, 2, 4])):
            goal = self.by.choice(plain.order[1:])
            if not any(x == goal or x in plain.over[goal] or goal in plain.over[x]
                       or plain.sort([y for y in plain.over[goal] if y in plain.over[x]][-1]) != "all" for x in told):
                told.append(goal)
        return tuple(told)

    def move(self, stand):
        whens = [("on", self.by.choice(self.happenings))] * 3 + [("after", self.by.choice([1, 1, 2, 4]))]
        if stand[1] == "one" and "end" in [inner[1] for inner in stand[2]]:
            whens += [("done",)] * 3
        return (self.by.choice(whens), self.guard(), self.deeds(), self.goals())

    def filled(self, stand):
        name, sort, stands = stand[:3]
        inner = tuple([self.filled(x) for x in stands])
        if sort in ("back", "deep"):
            return (name, sort, (), (), (), ())
        moves = tuple([self.move(stand) for _ in range(self.by.choice([0, 1, 2, 2, 3]))])
        return (name, sort, inner, self.deeds(1), self.deeds(1), moves)

    def bare(self, stand):
        return (stand[0], stand[1], tuple([self.bare(x) for x in stand[2]]), (), (), ())

    def chart(self):
        root = self.skeleton(self.by.choice(["one", "one", "all"]), 4)
        self.plain = Plain(((), (), self.bare(root)))
        facts = []
        for name in self.facts:
            low, high = self.by.choice([-2, 0]), self.by.choice([2, 9, 30])
            facts.append((name, low, high, self.by.choice([0, 0, 1, low, high])))
        return (tuple(facts), tuple(self.happenings), self.filled(root))
