"""The stands of a chart by their names."""

from deepstands.kinds import MARKER_SORTS


def is_shaped(thing):
    """Whether it is a tuple of six with a tuple where the stands in it are."""
    return isinstance(thing, tuple) and len(thing) == 6 and isinstance(thing[2], tuple)


def walk(root):
    """The stands in the chart's order, and for each the names of all that have it in them, from the root on; None
    where one isn't shaped like a stand."""
    stands, paths = [], []
    waiting = [(root, ())]
    while waiting:
        stand, path = waiting.pop()
        if not is_shaped(stand):
            return None
        stands.append(stand)
        paths.append(path)
        if stand[2]:
            path_within = path + (stand[0],)
            waiting.extend([(inner, path_within) for inner in stand[2][::-1]])
    return stands, paths


class Tree:
    """Stands in the chart's order, each with the names of all that have it in them; no two of one name."""

    def __init__(self, stands, paths):
        # The root is one deep.
        self.deep = max([len(path) for path in paths]) + 1
        self.names = [stand[0] for stand in stands]
        self.stands = dict(zip(self.names, stands))
        self.paths = dict(zip(self.names, paths))

    def knows(self, name):
        """Whether a stand has this name; it may be anything."""
        return isinstance(name, str) and name in self.stands

    def sort_of(self, name):
        """The sort of a stand."""
        return self.stands[name][1]

    def is_marker(self, name):
        """Whether the stand is a marker."""
        return self.sort_of(name) in MARKER_SORTS

    def parent(self, name):
        """The stand that it stands straight in, None of the root."""
        path = self.paths[name]
        return path[-1] if path else None

    def has(self, one, other):
        """Whether one has other properly in it."""
        return one in self.paths[other]

    def together(self, one, other):
        """Whether they lie within, or are, unlike stands straight in an all that has both."""
        if one == other or self.has(one, other) or self.has(other, one):
            return False
        shared = [name for name in self.paths[one] if self.has(name, other)]
        return self.sort_of(shared[-1]) == "all"

    def room(self, name, goals):
        """The least one that has the stand and all goals properly in it, else the root."""
        path = self.paths[name]
        for above in path[::-1]:
            if self.sort_of(above) == "one" and all([self.has(above, goal) for goal in goals]):
                return above
        return self.names[0]
