"""The stands of a chart by their numbers, 0 the root's, in the chart's order."""

from deepstands.kinds import FULL_SORTS, MARKER_SORTS

MOST_FACTS = 12
MOST_HAPPENINGS = 20
MOST_STANDS = 60
MOST_DEEP = 10
MOST_MOVES = 120


class Tree:
    """Stands by their numbers. All that stand within a stand have the numbers behind its own, up to a last one."""

    def __init__(self):
        self.names = []
        self.stands = []
        # By its number the number of the stand that a stand stands straight in, None of the root, and the last number
        # within it, its own where it has none in it.
        self.above = []
        self.last = []
        # By the numbers of stands those of the markers straight in them, the greatest n of an after; and tuples
        # (number, moves) of all that have moves.
        self.markers = {}
        self.greatest = {}
        self.moving = []
        # The numbers of those that have deeds that are done when they are left.
        self.outs = []
        # Their numbers by their names.
        self.numbers = {}

    def add_stand(self, stand, above):
        """Notes a stand, without what is in it; told is its number."""
        number = len(self.names)
        self.names.append(stand[0])
        self.numbers[stand[0]] = number
        self.stands.append(stand)
        self.above.append(above)
        self.last.append(number)
        return number

    def knows(self, name):
        """Whether a stand has this name; it may be anything."""
        return isinstance(name, str) and name in self.numbers

    def is_plain(self, name):
        """Whether a stand that is no marker has this name; it may be anything."""
        return self.knows(name) and self.stands[self.numbers[name]][1] not in MARKER_SORTS

    def has(self, one, other):
        """Whether one has other properly in it, by their numbers."""
        return one < other <= self.last[one]

    def together(self, one, other):
        """Whether they lie within, or are, unlike stands straight in an all that has both, by their numbers."""
        first, second = min(one, other), max(one, other)
        if second <= self.last[first]:
            return False
        least = self.above[first]
        while second > self.last[least]:
            least = self.above[least]
        return self.stands[least][1] == "all"

    def are_together(self, numbers):
        """Whether any two of these are so together."""
        # The least stand that has two of them is that of two others that stand between these, or has it in it: so only
        # those that are next to one another in the chart's order are looked at.
        in_order = sorted(numbers)
        for one, other in zip(in_order, in_order[1:]):
            if not self.together(one, other):
                return False
        return True

    def least_room(self, number, goals):
        """The least one that has the stand and all goals properly in it, else the root, by their numbers."""
        first, last = min(goals), max(goals)
        above = self.above[number]
        while above is not None:
            if self.stands[above][1] == "one" and above < first and last <= self.last[above]:
                return above
            above = self.above[above]
        return 0

    def take_stands(self, stands, above, deep, deeds):
        """Notes stands straight in one, so deep, and all in them, and puts the deeds of their intos and outs to those.
        Told is whether all are made as their sort is, none too deep; where markers stand isn't looked at, nor names."""
        names, all_stands, all_above, all_last = self.names, self.stands, self.above, self.last
        for stand in stands:
            if not isinstance(stand, tuple) or len(stand) != 6:
                return False
            name, sort, inner, into, out, moves = stand
            if not isinstance(name, str):
                return False
            number = len(names)
            names.append(name)
            all_stands.append(stand)
            all_above.append(above)
            all_last.append(number)
            # Of what is empty it takes less time to tell whether it is ().
            if moves and isinstance(moves, tuple):
                self.moving.append((number, moves))
            elif moves != ():
                return False
            if (into or out) and isinstance(into, tuple) and isinstance(out, tuple):
                deeds.extend(into + out)
                if out:
                    self.outs.append(number)
            elif into != () or out != ():
                return False
            if sort == "leaf" or sort == "end":
                if inner != ():
                    return False
            elif sort == "one" or sort == "all":
                if not isinstance(inner, tuple) or inner == () or deep == MOST_DEEP:
                    return False
                if not self.take_stands(inner, number, deep + 1, deeds):
                    return False
                all_last[number] = len(names) - 1
            elif sort != "back" and sort != "deep" or inner != () or into != () or out != () or moves != ():
                return False
            else:
                self.markers.setdefault(above, []).append(number)
        return True

    def number_names(self):
        """Notes the numbers of stands by their names."""
        self.numbers = dict(zip(self.names, range(len(self.names))))

    def are_markers_placed(self):
        """Whether all markers stand where they may: in a one, one of each sort, beside others."""
        for above, markers in self.markers.items():
            if above is None:
                return False
            sorts = [self.stands[marker][1] for marker in markers]
            stand = self.stands[above]
            if stand[1] != "one" or len(set(sorts)) < len(sorts) or len(sorts) == len(stand[2]):
                return False
        return True

    def may_be_done(self, number):
        """Whether a done of the stand can come."""
        stand = self.stands[number]
        return stand[1] == "one" and "end" in [inner[1] for inner in stand[2]]

    def has_root(self):
        """Whether the root can have stands in it."""
        return self.stands[0][1] in FULL_SORTS
