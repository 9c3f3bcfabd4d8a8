"""Stages 5 to 8 told once more, slowly, by standings as they are told and word by word: what the program tells is held
against this."""

from itertools import product

from plain import Plain, Refused


class Slow:
    """A chart, its happenings and what they do, asked step by step."""

    def __init__(self, chart):
        self.chart = chart
        self.plain = Plain(chart)
        self.happenings = chart[1] + ("tick",)
        self.known = {}

    def begin(self):
        """(standing, said, moves chosen)."""
        standing, said = self.plain.start()
        return standing, said, [move for told in self.plain.told for move in told[1]]

    def go(self, standing, happening):
        """("told", standing behind, said, moves chosen), or ("refused", word)."""
        if (standing, happening) not in self.known:
            try:
                behind, said = self.plain.step(standing, happening)
                went = [move for told in self.plain.told for move in told[1]]
                self.known[standing, happening] = ("told", behind, said, went)
            except Refused as error:
                self.known[standing, happening] = ("refused", error.args[0])
        return self.known[standing, happening]

    def has(self, guard, standing):
        return self.plain.load(standing).holds(guard)

    def after(self, standing, happening):
        """The standing behind a happening, also of a refused one."""
        done = self.go(standing, happening)
        return done[1] if done[0] == "told" else standing

    def tells(self, standing, happening):
        done = self.go(standing, happening)
        return done[2] if done[0] == "told" else done[1]

    def way(self, row):
        """The standings along a row, the begin's first."""
        told = [self.begin()[0]]
        for happening in row:
            told.append(self.after(told[-1], happening))
        return told

    def rows(self, most):
        """All rows up to a length, the shorter ones first, then in the order of the happenings."""
        for many in range(most + 1):
            yield from (list(row) for row in product(self.happenings, repeat=many))

    def reach(self, most):
        """The standings that are come to, None where there are more than most."""
        found = [self.begin()[0]]
        for standing in found:
            for happening in self.happenings:
                behind = self.after(standing, happening)
                if behind not in found:
                    found.append(behind)
                    if len(found) > most:
                        return None
        return found

    def from_there(self, standing):
        """All standings that rows lead to from one."""
        found = [standing]
        for other in found:
            for happening in self.happenings:
                if self.after(other, happening) not in found:
                    found.append(self.after(other, happening))
        return found

    def is_by(self, when, happening):
        return when is None or when == happening

    def shows(self, saying, row):
        """Whether a row shows at its end that a saying isn't so."""
        word, way = saying[0], self.way(row)
        last = self.go(way[-2], row[-1]) if row else None
        for k, happening in enumerate(row):
            is_let = word == "within" and happening == "tick" or word == "unrefused" and k == len(row) - 1
            if self.go(way[k], happening)[0] == "refused" and not is_let:
                return False
        if word == "never":
            return self.has(saying[1], way[-1])
        if word == "unsaid":
            said = last[2] if row and last[0] == "told" else self.begin()[1] if not row else []
            return saying[1] in [name for name, _ in said]
        if word == "unrefused":
            return bool(row) and self.is_by(saying[1], row[-1]) and last[0] == "refused"
        if word == "behind":
            return bool(row) and self.is_by(saying[1], row[-1]) and last[0] == "told" and self.has(
                saying[2], way[-2]) and not self.has(saying[3], way[-1])
        if word == "before":
            return self.has(saying[2], way[-1]) and not any(self.has(saying[1], standing) for standing in way)
        if word == "within":
            return self.shows_within(saying, row, way)
        return self.has(saying[1], way[-1]) and not any(self.has(saying[2], x) for x in self.from_there(way[-1]))

    def shows_within(self, saying, row, way):
        """Whether the last happening of a row is a tick, the (n + 1)-th from a standing with g on, without h."""
        if row[-1:] != ["tick"]:
            return False
        for k in range(len(row)):
            if row[k:].count("tick") == saying[3] + 1 and self.has(saying[1], way[k]):
                if not any(self.has(saying[2], standing) for standing in way[k:]):
                    return True
        return False

    def comes_to(self, goal, row):
        """Whether a row comes to a goal."""
        way = self.way(row)
        done = self.go(way[-2], row[-1]) if row else ("told", *self.begin())
        if done[0] == "refused":
            return False
        return goal[1] in done[1][0] if goal[0] == "stand" else goal[1:] in done[3]

    def goals(self):
        told = []
        for name in self.plain.order:
            if name != self.plain.root[0] and self.plain.sort(name) not in ("back", "deep"):
                told.append(("stand", name))
            told += [("move", name, k) for k in range(len(self.plain.stand[name][5]))]
        return told

    def row_apart(self, one, other):
        """The first row, of all shorter than others in order, whose last happening tells unlike of two standings."""
        pairs, rows = [(one, other)], [[]]
        for k, (first, second) in enumerate(pairs):
            for happening in self.happenings:
                row = rows[k] + [happening]
                if self.tells(first, happening) != self.tells(second, happening):
                    return row
                behind = (self.after(first, happening), self.after(second, happening))
                if behind not in pairs:
                    pairs.append(behind)
                    rows.append(row)
        return None

    def lots(self, standings):
        """Numbers of standings, put together where nothing parts them."""
        told = []
        for number, standing in enumerate(standings):
            for lot in told:
                if self.row_apart(standings[lot[0]], standing) is None:
                    lot.append(number)
                    break
            else:
                told.append([number])
        return told


def side_by_side(one, other, most):
    """What alike tells of two Slows, "great" where one pair more than most would be noted."""
    (first, said, _), (second, other_said, _) = one.begin(), other.begin()
    if said != other_said:
        return ("parts", [])
    pairs, rows = [(first, second)], [[]]
    for k, (first, second) in enumerate(pairs):
        for happening in one.happenings:
            if one.tells(first, happening) != other.tells(second, happening):
                return ("parts", rows[k] + [happening])
            behind = (one.after(first, happening), other.after(second, happening))
            if behind not in pairs:
                if len(pairs) == most:
                    return "great"
                pairs.append(behind)
                rows.append(rows[k] + [happening])
    return ("alike", pairs)


def renamed(thing, names):
    """A chart, or what is in one, with other names."""
    if isinstance(thing, tuple):
        return tuple(renamed(part, names) for part in thing)
    return names.get(thing, thing)


class Marking(Plain):
    """A Plain that notes what fits and what is chosen, also in what is refused."""

    def __init__(self, chart):
        super().__init__(chart)
        self.fitted, self.picked = set(), set()

    def fits(self, what):
        told = super().fits(what)
        self.fitted |= set(told)
        return told

    def chosen(self, what):
        told = super().chosen(what)
        self.picked |= set(told)
        return told


def idle_of(chart, standings):
    """What idle tells of a chart of which these are all standings that are come to."""
    plain = Marking(chart)
    plain.start()
    for standing in standings:
        for happening in chart[1] + ("tick",):
            try:
                plain.step(standing, happening)
            except Refused:
                pass
    stood = {name for standing in standings for name in standing[0]}
    moves = [(name, k) for name in plain.order for k in range(len(plain.stand[name][5]))]
    return ([name for name in plain.order if name not in stood and plain.sort(name) not in ("back", "deep")],
            [move for move in moves if move not in plain.picked], [move for move in moves if move not in plain.fitted])


class Leading:
    """A standing led from one chart to another one by a dict of names, as point 60 says it."""

    def __init__(self, chart, other, standing, names):
        self.old, self.new, self.names = Plain(chart), Plain(other), names
        self.stood, self.worths, self.ages, self.kept = standing

    def image(self, name):
        return self.names[name] if name in self.names else name

    def is_plain(self, name):
        return name in self.new.stand and self.new.sort(name) not in ("back", "deep")

    def go_together(self, one, other):
        if one == other or one in self.new.over[other] or other in self.new.over[one]:
            return False
        return self.new.sort([x for x in self.new.over[one] if x in self.new.over[other]][-1]) == "all"

    def stood_then(self, lasts):
        stood = {self.new.root[0]}
        for name in lasts:
            stood |= {self.image(name), *self.new.over[self.image(name)]}
        while True:
            more = set(stood)
            for name in stood:
                inner = self.new.plain_in(name)
                if self.new.sort(name) == "all":
                    more |= set(inner)
                elif self.new.sort(name) == "one" and not stood & set(inner):
                    more.add(inner[0])
            if more == stood:
                return stood
            stood = more

    def outcome(self):
        for name in self.stood:
            if not self.is_plain(self.image(name)):
                return ("Gone", name)
        lasts = [name for name in self.stood if not any(name in self.old.over[other] for other in self.stood)]
        for k, one in enumerate(lasts):
            for other in lasts[k + 1:]:
                if not self.go_together(self.image(one), self.image(other)):
                    return ("Apart", one, other)
        stood = self.stood_then(lasts)
        for name in self.stood:
            if self.image(name) not in stood:
                return ("Moved", name)
        worths = []
        for name, low, high, first in self.new.facts:
            olds = [worth for fact, worth in zip(self.old.facts, self.worths) if self.image(fact[0]) == name]
            worths.append(olds[0] if olds else first)
            if not low <= worths[-1] <= high:
                return ("Beyond", name, None)
        in_order = tuple(name for name in self.new.order if name in stood)
        ages = tuple((name, self.age_of(name)) for name in in_order if self.new.greatest(name) is not None)
        kept = ((name, self.kept_by(name)) for name in self.new.order if self.new.sort(name) in ("back", "deep"))
        return ("led", (in_order, tuple(worths), ages, tuple(pair for pair in kept if pair[1])))

    def age_of(self, name):
        olds = [old for old in self.stood if self.image(old) == name]
        if not olds or olds[0] not in dict(self.ages):
            return 0
        return min(dict(self.ages)[olds[0]], self.new.greatest(name) + 1)

    def kept_by(self, marker):
        olds = [names for old, names in self.kept if self.image(old) == marker]
        images = [self.image(name) for name in olds[0]] if olds else []
        if len(set(images)) < len(images) or not all(self.is_plain(image) for image in images):
            return None
        one = self.new.over[marker][-1]
        ways = self.ways_in(one) if self.new.sort(marker) == "deep" else [{x} for x in self.new.plain_in(one)]
        return tuple(name for name in self.new.order if name in images) if set(images) in ways else None

    def ways_in(self, name):
        """All sets of what may be stood in properly within a stand at one time."""
        told = [set()]
        if self.new.sort(name) == "one":
            return [{x} | more for x in self.new.plain_in(name) for more in self.ways_in(x)]
        for x in self.new.plain_in(name):
            told = [{x} | more | ahead for ahead in told for more in self.ways_in(x)]
        return told
