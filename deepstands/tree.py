"""The stands of a chart by their names."""

from deepstands.kinds import MARKER_SORTS


def walk(root):
    """The stands in the chart's order, tuples (stand, path), path the names of all that have it in them, from the
    root on."""
    found = []
    waiting = [(root, ())]
    while waiting:
        stand, path = waiting.pop()
        found.append((stand, path))
        waiting.extend([(inner, path + (stand[0],)) for inner in stand[2][::-1]])
    return found


class Tree:
    """The stands under a root, no two of one name."""

    def __init__(self, root):
        self.names = []
        self.stands = {}
        self.paths = {}
        for stand, path in walk(root):
            self.names.append(stand[0])
            self.stands[stand[0]] = stand
            self.paths[stand[0]] = path

    def knows(self, name):
        """Whether a stand has this name; it may be anything."""
        return isinstance(name, str) and name in self.stands

    def sort_of(self, name):
        """The sort of a stand."""
        return self.stands[name][1]

    def is_marker(self, name):
        """Whether the stand is a marker."""
        return self.sort_of(name) in MARKER_SORTS

    def parent(self, name):
        """The stand that it stands straight in, None of the root."""
        path = self.paths[name]
        return path[-1] if path else None

    def has(self, one, other):
        """Whether one has other properly in it."""
        return one in self.paths[other]

    def together(self, one, other):
        """Whether they lie within, or are, unlike stands straight in an all that has both."""
        if one == other or self.has(one, other) or self.has(other, one):
            return False
        shared = [name for name in self.paths[one] if self.has(name, other)]
        return self.sort_of(shared[-1]) == "all"

    def room(self, name, goals):
        """The least one that has the stand and all goals properly in it, else the root."""
        path = self.paths[name]
        for above in path[::-1]:
            if self.sort_of(above) == "one" and all([self.has(above, goal) for goal in goals]):
                return above
        return self.names[0]
