"""What moves with goals leave, keep and enter. None of it hangs on worths or ages.

A turn is a tuple (went, acts, keep, enter): the addresses of the moves chosen; their deeds and those of what is left
and entered, None where there are none; the bits of a code that stay, and those that are set then."""

from deepstands.acts import acts_by

LAST_SORTS = ("leaf", "end")


class Room:
    """A room, whatever is stood in in it: the bits of all within it, and those of a code that stay when it is left."""

    def __init__(self, plan, number):
        self.number = number
        self.inside = plan.bits_in(number)
        self.keep = plan.code_bits ^ self.inside
        if plan.shifts:
            self.keep ^= plan.ages_in(number)
        # The bits of a code on which hangs what is done when it is left.
        self.hanging = 0
        if plan.tree.outs:
            self.hanging = self.inside & plan.bits_out()
        if plan.tree.markers and self.inside & plan.bits_marked():
            self.hanging = self.inside | plan.kept_bits


def room_for(plan, number, goals):
    """The room of a stand's move with these goals, by their numbers."""
    tree = plan.tree
    # Of one goal it hangs on what the stand and that one stand straight in.
    key = (tree.above[number], tree.above[goals[0]]) if len(goals) == 1 else (number, tuple(goals))
    found = plan.rooms.get(key)
    if found is None:
        room = tree.least_room(number, goals)
        found = plan.rooms.get(room)
        if found is None:
            found = plan.rooms[room] = Room(plan, room)
        plan.rooms[key] = found
    return found


def hanging_bits(plan, number, names):
    """The bits of a code on which hangs what a stand's move with goals of these names leaves and enters."""
    if not plan.tree.outs and not plan.tree.markers:
        return 0
    goals = [plan.numbers[name] for name in names]
    room = room_for(plan, number, goals)
    return room.inside | plan.kept_bits if plan.has_marker(goals) else room.hanging


class Way:
    """A move, whatever else is stood in: the numbers of its goals, its room, None where it has none, and the bits of
    all within that."""

    def __init__(self, plan, move):
        self.number, self.place = move
        _, _, _, goals = plan.stands[self.number][5][self.place]
        self.goals = [plan.numbers[name] for name in goals]
        self.room = room_for(plan, self.number, self.goals) if goals else None
        self.inside = self.room.inside if goals else 0
        # What is found out only when it is chosen: its address; its deeds; the bits of a code that stay then; what it
        # has entered, None where that hangs on what markers keep, the bits of that, and what is done then.
        self.went = None
        self.deeds = []
        self.keep = plan.code_bits
        self.entered = []
        self.enter = 0
        self.intos = []
        # What it does chosen alone, None where that hangs on what is left.
        self.turn = None

    def choose(self, plan):
        """Finds out what comes of it when it is chosen."""
        _, _, deeds, _ = plan.stands[self.number][5][self.place]
        self.went = ((plan.names[self.number], self.place),)
        if deeds:
            self.deeds = [(self.number, deed) for deed in plan.read_deeds(deeds)]
        if self.goals:
            self.keep = self.room.keep
            if plan.has_marker(self.goals):
                self.entered = None
                return
            self.entered = entered_by(plan, self, {})
            self.enter = plan.bits_of(self.entered)
            self.intos = intos_of(plan, self.entered)
            if self.room.hanging != 0:
                return
        self.turn = (self.went, acts_by(self.deeds + self.intos), self.keep, self.enter)


def way_of(plan, move):
    """The way of a move (number, k)."""
    found = plan.ways.get(move)
    if found is None:
        found = plan.ways[move] = Way(plan, move)
    return found


def chosen_way(plan, move):
    """The way of a move (number, k) that is chosen."""
    way = way_of(plan, move)
    if way.went is None:
        way.choose(plan)
    return way


def turn_of(plan, code, picked):
    """The turn of moves (number, k), chosen together at a code."""
    ways = [chosen_way(plan, move) for move in picked]
    went, deeds, intos = [], [], []
    inside, keep, enter = 0, plan.code_bits, 0
    for way in ways:
        went.extend(way.went)
        deeds.extend(way.deeds)
        inside |= way.inside
        keep &= way.keep
    left = code & inside
    kept = plan.kept_at(code)
    if plan.tree.markers and left & plan.bits_marked():
        kept = kept_behind(plan, code, left)
        keep &= (1 << plan.kept_shift) - 1
        enter = plan.bits_kept(kept)
    for way in ways:
        if way.entered is None:
            entered = entered_by(plan, way, dict(kept))
            enter |= plan.bits_of(entered)
            intos.extend(intos_of(plan, entered))
        else:
            enter |= way.enter
            intos.extend(way.intos)
    # Rooms share nothing, so of each one what is entered is in order.
    intos = sorted(intos, key=lambda into: into[0]) if len(intos) > 1 else intos
    outs = outs_of(plan, left) if left and plan.tree.outs else []
    return (tuple(went), acts_by(outs + deeds + intos), keep, enter)


def kept_behind(plan, code, left):
    """What markers keep when all this is left, in order."""
    kept = dict(plan.kept_at(code))
    for one in plan.tree.markers:
        if left >> one & 1:
            key = (one, code & plan.bits_in(one))
            if key not in plan.keeps:
                plan.keeps[key] = kept_by(plan, code, one)
            kept.update(plan.keeps[key])
    return tuple(sorted(kept.items()))


def kept_by(plan, code, one):
    """What the markers straight in a one keep when it is left, by their numbers."""
    kept = {}
    for marker in plan.tree.markers[one]:
        if plan.stands[marker][1] == "back":
            kept[marker] = tuple([number for number in plan.inner(one) if code >> number & 1])
        else:
            last = plan.tree.last[one]
            kept[marker] = tuple([number for number in range(one + 1, last + 1) if code >> number & 1])
    return kept


def wanted(plan, room, goals, kept):
    """What goals have entered, whatever else is: themselves and all between them and the room, and what a marker
    keeps."""
    found = {}
    for goal in goals:
        for number in kept.get(goal, ()):
            found[number] = True
        # Of a marker it is found, too, but what is entered in its one is looked for among other stands.
        target = goal
        while target != room:
            found[target] = True
            target = plan.tree.above[target]
    return found


def inside(plan, top, called):
    """What is entered within a stand that is entered, or is a room, where those called are wanted, in order."""
    found = []
    opened = [top]
    while opened:
        number = opened.pop()
        found.append(number)
        sort = plan.stands[number][1]
        if sort == "one":
            # A one has one of them wanted at most; else its first is entered.
            inner = plan.inner(number)
            opened.extend([k for k in inner if k in called] or inner[:1])
        elif sort == "all":
            opened.extend(plan.inner(number)[::-1])
    return found[1:]


def entered_by(plan, way, kept):
    """What a way has entered, in order, where markers keep this by their numbers."""
    goal, room = way.goals[0], way.room.number
    # Nothing else is entered where a room that is a one has a leaf or an end straight in it for goal.
    if plan.tree.above[goal] == room and plan.stands[goal][1] in LAST_SORTS and plan.stands[room][1] == "one":
        return [goal]
    return inside(plan, room, wanted(plan, room, way.goals, kept))


def entered_first(plan):
    """What is entered at the begin, in order."""
    return [0] + inside(plan, 0, {})


def outs_of(plan, left):
    """What is done when all of these bits is left, tuples (number, deed)."""
    outs = [number for number in plan.tree.outs[::-1] if left >> number & 1]
    return [(number, deed) for number in outs for deed in plan.read_deeds(plan.stands[number][4])]


def intos_of(plan, entered):
    """What is done when all this is entered, tuples (number, deed)."""
    found = []
    for number in entered:
        _, sort, _, deeds, _, _ = plan.stands[number]
        if deeds:
            found.extend([(number, deed) for deed in plan.read_deeds(deeds)])
        if sort == "end":
            above = plan.tree.above[number]
            if plan.stands[above][1] == "one":
                found.append((number, ("done", plan.names[above])))
    return found
