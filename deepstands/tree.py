"""The stands of a chart by their numbers, 0 the root's, in the chart's order."""

from deepstands.kinds import FULL_SORTS, MARKER_SORTS

MOST_DEEP = 10


class Tree:
    """Stands by their numbers. All that stand within a stand have the numbers behind its own, up to a last one."""

    def __init__(self):
        self.names = []
        self.stands = []
        # By its number the number of the stand that a stand stands straight in, None of the root, and the last number
        # within it, its own where it has none in it.
        self.above = []
        self.last = []
        # By the numbers of stands those of the markers straight in them, the greatest n of an after; and tuples
        # (number, moves) of all that have moves.
        self.markers = {}
        self.greatest = {}
        self.moving = []
        # Their numbers by their names.
        self.numbers = {}

    def add_stand(self, stand, above):
        """Notes a stand, without what is in it; told is its number."""
        number = len(self.names)
        self.names.append(stand[0])
        self.numbers[stand[0]] = number
        self.stands.append(stand)
        self.above.append(above)
        self.last.append(number)
        return number

    def knows(self, name):
        """Whether a stand has this name; it may be anything."""
        return isinstance(name, str) and name in self.numbers

    def is_plain(self, name):
        """Whether a stand that is no marker has this name; it may be anything."""
        return self.knows(name) and self.stands[self.numbers[name]][1] not in MARKER_SORTS

    def has(self, one, other):
        """Whether one has other properly in it, by their numbers."""
        return one < other <= self.last[one]

    def together(self, one, other):
        """Whether they lie within, or are, unlike stands straight in an all that has both, by their numbers."""
        first, second = min(one, other), max(one, other)
        if second <= self.last[first]:
            return False
        least = self.above[first]
        while second > self.last[least]:
            least = self.above[least]
        return self.stands[least][1] == "all"

    def room(self, number, goals):
        """The least one that has the stand and all goals properly in it, else the root, by their numbers."""
        above = self.above[number]
        while above is not None:
            if self.stands[above][1] == "one" and all([self.has(above, goal) for goal in goals]):
                return above
            above = self.above[above]
        return 0

    def take_stands(self, stands, above, deep, deeds):
        """Notes stands that stand straight in one, so deep, and all in them, and puts the deeds of their intos and
        outs to those. Told is whether all are made as one of their sort is, and none is too deep."""
        names, numbers, all_stands = self.names, self.numbers, self.stands
        for stand in stands:
            if not isinstance(stand, tuple) or len(stand) != 6:
                return False
            name, sort, inner, into, out, moves = stand
            if not isinstance(name, str) or not isinstance(inner, tuple) or not isinstance(moves, tuple):
                return False
            if not isinstance(into, tuple) or not isinstance(out, tuple):
                return False
            number = len(names)
            names.append(name)
            numbers[name] = number
            all_stands.append(stand)
            self.above.append(above)
            self.last.append(number)
            if moves:
                self.moving.append((number, moves))
            if into or out:
                deeds.extend(into + out)
            if sort == "leaf" or sort == "end":
                if inner:
                    return False
            elif sort == "one" or sort == "all":
                if not inner or deep == MOST_DEEP or not self.take_stands(inner, number, deep + 1, deeds):
                    return False
                self.last[number] = len(names) - 1
                if number in self.markers and not self.has_place_for(number):
                    return False
            elif sort != "back" and sort != "deep" or inner or into or out or moves or above is None:
                return False
            else:
                self.markers.setdefault(above, []).append(number)
        return True

    def has_place_for(self, number):
        """Whether the markers straight in a stand may stand there: in a one, one of each sort, beside others."""
        sorts = [self.stands[marker][1] for marker in self.markers[number]]
        stand = self.stands[number]
        return stand[1] == "one" and len(set(sorts)) == len(sorts) and len(sorts) < len(stand[2])

    def may_be_done(self, number):
        """Whether a done of the stand can come."""
        stand = self.stands[number]
        return stand[1] == "one" and "end" in [inner[1] for inner in stand[2]]

    def has_root(self):
        """Whether the root can have stands in it."""
        return self.stands[0][1] in FULL_SORTS
