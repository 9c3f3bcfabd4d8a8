"""The stands of a chart, as they are met and by their names."""

MOST_DEEP = 10


class Gathered:
    """Stands as they are met, with all their moves and the deeds of their intos and outs.

    What is told of a stand here says nothing yet of its name, its moves and its deeds."""

    def __init__(self):
        self.names = []
        self.stands = []
        self.paths = []
        self.moves = []
        self.deeds = []

    def take(self, stand, path):
        """Notes a stand; told is whether it is made as one of its sort is, whatever the stands in it are."""
        if not isinstance(stand, tuple) or len(stand) != 6:
            return False
        name, sort, inner, into, out, moves = stand
        if not isinstance(name, str) or not isinstance(inner, tuple) or not isinstance(moves, tuple):
            return False
        if not isinstance(into, tuple) or not isinstance(out, tuple):
            return False
        if sort == "leaf" or sort == "end":
            if inner:
                return False
        elif sort == "one" or sort == "all":
            if not inner:
                return False
        elif sort != "back" and sort != "deep" or inner or into or out or moves:
            return False
        self.names.append(name)
        self.stands.append(stand)
        self.paths.append(path)
        self.moves.extend(moves)
        self.deeds.extend(into)
        self.deeds.extend(out)
        return True

    def take_all(self, root):
        """Notes the root and all stands in it, in the chart's order; told is whether all are made as they are."""
        waiting = [(root, ())]
        while waiting:
            stand, path = waiting.pop()
            if not self.take(stand, path):
                return False
            if stand[2]:
                # A thing may be as deep as it likes; a path that is too long already grows no more.
                path_within = path if len(path) == MOST_DEEP else path + (stand[0],)
                waiting.extend([(inner, path_within) for inner in stand[2][::-1]])
        return True


class Tree:
    """Stands in the chart's order, each with the names of all that have it in them; no two of one name."""

    def __init__(self, names, stands, paths):
        self.names = names
        self.stands = dict(zip(names, stands))
        self.paths = dict(zip(names, paths))

    def knows(self, name):
        """Whether a stand has this name; it may be anything."""
        return isinstance(name, str) and name in self.stands

    def sort_of(self, name):
        """The sort of a stand."""
        return self.stands[name][1]

    def parent(self, name):
        """The stand that it stands straight in, None of the root."""
        path = self.paths[name]
        return path[-1] if path else None

    def has(self, one, other):
        """Whether one has other properly in it."""
        return one in self.paths[other]

    def together(self, one, other):
        """Whether they lie within, or are, unlike stands straight in an all that has both."""
        if one == other or self.has(one, other) or self.has(other, one):
            return False
        least = self.names[0]
        for name, far in zip(self.paths[one], self.paths[other]):
            if name != far:
                break
            least = name
        return self.sort_of(least) == "all"

    def room(self, name, goals):
        """The least one that has the stand and all goals properly in it, else the root."""
        path = self.paths[name]
        for above in path[::-1]:
            if self.sort_of(above) == "one" and all([self.has(above, goal) for goal in goals]):
                return above
        return self.names[0]
