"""What moves with goals leave, keep and enter. None of it hangs on worths or ages, so what was found out for what is
stood in at one time is there when it is asked for again."""


class Turn:
    """What moves that are chosen together do, ways their rooms and goals, from a scene on."""

    def __init__(self, plan, scene, ways, kept):
        # In the back order; what markers keep then, by their numbers.
        self.left = left_by(plan, scene, [room for room, _ in ways])
        self.keeps = keeps_of(plan, scene, self.left) if plan.tree.markers else {}
        kept_then = {**kept, **self.keeps}
        entered = []
        for room, goals in ways:
            entered.extend(inside(plan, room, wanted(plan, room, goals, kept_then)))
        # In the chart's order.
        self.entered = sorted(entered)
        stayed = [number for number in scene.stood if number not in self.left]
        self.target = plan.scene_of(tuple(sorted(stayed + self.entered)))
        self.outs = [
            (number, plan.read_deeds(plan.stands[number][4])) for number in self.left if plan.stands[number][4]
        ]
        self.intos = intos_of(plan, self.entered)


class Beginning:
    """What is entered at the begin."""

    def __init__(self, plan):
        self.entered = sorted([0] + inside(plan, 0, {}))
        self.target = plan.scene_of(tuple(self.entered))
        self.intos = intos_of(plan, self.entered)


def left_by(plan, scene, rooms):
    """What is stood in within rooms, of which none is within another one, in the back order."""
    stood = scene.stood[::-1]
    if rooms == [0]:
        return list(stood[:-1])
    ends = [(room, plan.tree.last[room]) for room in rooms]
    return [number for number in stood for room, last in ends if room < number <= last]


def keeps_of(plan, scene, left):
    """What the markers of stands that are left keep: tuples of numbers by their numbers."""
    keeps = {}
    for one in left:
        for marker in plan.tree.markers.get(one, ()):
            if plan.stands[marker][1] == "back":
                within = [number for number in plan.inner(one) if number in scene.stood]
            else:
                within = [number for number in scene.stood if plan.tree.has(one, number)]
            keeps[marker] = tuple(within)
    return keeps


def wanted(plan, room, goals, kept):
    """What goals have entered, whatever else is: themselves and all between them and the room, and what a marker
    keeps."""
    found = {}
    for goal in goals:
        for number in kept.get(goal, ()):
            found[number] = True
        # Of a marker it is found, too, but what is entered in its one is looked for among other stands.
        target = goal
        while target != room:
            found[target] = True
            target = plan.tree.above[target]
    return found


def inside(plan, top, called):
    """What is entered within a stand that is entered, or is a room, where those called are wanted."""
    found = []
    opened = [top]
    while opened:
        number = opened.pop()
        inner = plan.inner(number)
        if plan.stands[number][1] == "one":
            # A one has one of them wanted at most; else its first is entered.
            inner = [k for k in inner if k in called] or inner[:1]
        found.extend(inner)
        opened.extend(inner)
    return found


def intos_of(plan, entered):
    """Of those entered that have deeds to be done, or are ends straight in a one: (number, deeds, what), what the done
    that comes then, else None."""
    found = []
    for number in entered:
        _, sort, _, deeds, _, _ = plan.stands[number]
        above = plan.tree.above[number]
        what = ("done", plan.names[above]) if sort == "end" and plan.stands[above][1] == "one" else None
        if deeds or what is not None:
            found.append((number, plan.read_deeds(deeds) if deeds else (), what))
    return found
