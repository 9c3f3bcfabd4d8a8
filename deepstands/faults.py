"""The first that is wrong with a thing that is no chart. What is wrong with one of many stands is looked for among half
of them, then among half of these, and so on: so all that is looked at is about as much as the whole."""

from deepstands.kinds import FULL_SORTS, GREATEST, MARKER_SORTS, is_name, is_whole
from deepstands.parts import Parts
from deepstands.tree import MOST_DEEP, MOST_FACTS, MOST_HAPPENINGS, MOST_MOVES, MOST_STANDS


def has_outline(thing):
    """Whether it is a tuple of three, the first two tuples."""
    if not isinstance(thing, tuple) or len(thing) != 3:
        return False
    return isinstance(thing[0], tuple) and isinstance(thing[1], tuple)


def outline_wrong(thing):
    """Whether it is made as no chart is."""
    return None if has_outline(thing) else ("chart",)


def is_fact(thing):
    """Whether it is a fact: its NAME, low, high, first."""
    if not isinstance(thing, tuple) or len(thing) != 4:
        return False
    name, low, high, first = thing
    if not is_name(name) or not is_whole(low) or not is_whole(high) or not is_whole(first):
        return False
    return -GREATEST <= low <= first <= high <= GREATEST


def fact_wrong(chart):
    """The first fact that is none."""
    for k, fact in enumerate(chart[0]):
        if not is_fact(fact):
            return ("fact", k)
    return None


def happening_wrong(chart):
    """The first happening that is none."""
    for k, happening in enumerate(chart[1]):
        if not is_name(happening) or happening == "tick":
            return ("happening", k)
    return None


def parts_of(chart):
    """Where to note what stands of the chart are made of."""
    return Parts(tuple([fact[0] for fact in chart[0]]), chart[1])


def has_form(stand):
    """Whether it is made as a stand of its sort is, its name, its moves and deeds and the stands in it left out."""
    if not isinstance(stand, tuple) or len(stand) != 6:
        return False
    if not all([isinstance(part, tuple) for part in stand[2:]]):
        return False
    if stand[1] in FULL_SORTS:
        return len(stand[2]) > 0
    if stand[1] in MARKER_SORTS:
        return stand[2:] == ((), (), (), ())
    return stand[1] in ("leaf", "end") and stand[2] == ()


def first_of(many, is_right):
    """The number of the first of so many that is wrong, as one of them is; is_right tells of some, from one number on
    and ahead of another, whether all are right."""
    low, high = 0, many
    while high - low > 1:
        middle = (low + high) // 2
        if is_right(low, middle):
            low = middle
        else:
            high = middle
    return low


def are_stands(chart, stands):
    """Whether all of these, which have their form, are stands by what is in their moves and deeds, too."""
    parts = parts_of(chart)
    for stand in stands:
        parts.deeds.extend(stand[3] + stand[4])
    if not parts.take_moves([(0, stand[5]) for stand in stands]) or not parts.take_rest() or not parts.are_named():
        return False
    return not [stand for stand in stands if not is_name(stand[0])]


class Walk:
    """All stands of a chart in order, as far as they have their form, by their numbers."""

    def __init__(self, root):
        self.stands = []
        # The numbers of those they stand straight in, and their places among those straight in that.
        self.above = []
        self.places = []
        self.deepest = 0
        waiting = [(root, None, 0, 1)]
        self.has_forms = True
        while waiting and self.has_forms:
            stand, above, place, deep = waiting.pop()
            self.has_forms = has_form(stand)
            self.above.append(above)
            self.places.append(place)
            if self.has_forms:
                number = len(self.stands)
                self.stands.append(stand)
                self.deepest = max(self.deepest, deep)
                inner = [(thing, number, k, deep + 1) for k, thing in enumerate(stand[2])]
                waiting.extend(inner[::-1])

    def address(self, number):
        """The address of a stand, or of the first thing that has no form of one."""
        address = []
        while self.above[number] is not None:
            address.append(self.places[number])
            number = self.above[number]
        return tuple(address[::-1])


def stand_wrong(chart, walk, has_forms):
    """The first stand that is none by its own form; where all have their form one must be none."""
    stands = walk.stands
    if not has_forms and are_stands(chart, stands):
        return None if walk.has_forms else ("stand", walk.address(len(stands)))
    return ("stand", walk.address(first_of(len(stands), lambda low, high: are_stands(chart, stands[low:high]))))


def great_wrong(chart, walk):
    """Whether there is more of something than a chart may have."""
    if len(chart[0]) > MOST_FACTS or len(chart[1]) > MOST_HAPPENINGS or len(walk.stands) > MOST_STANDS:
        return ("great",)
    many_moves = sum([len(stand[5]) for stand in walk.stands])
    return ("great",) if walk.deepest > MOST_DEEP or many_moves > MOST_MOVES else None


def first_form_fault(thing, has_forms):
    """What is wrong first with a thing that is no chart for its form, or for having more than it may; has_forms where
    nothing but what is in names, moves and deeds of stands can be wrong."""
    wrong = outline_wrong(thing) or fact_wrong(thing) or happening_wrong(thing)
    if wrong is not None:
        return wrong
    walk = Walk(thing[2])
    return stand_wrong(thing, walk, has_forms) or great_wrong(thing, walk)


def first_again(names):
    """The first name that has one like it ahead of it, else None."""
    seen = set()
    for name in names:
        if name in seen:
            return name
        seen.add(name)
    return None


def twice_wrong(chart, tree):
    """The first name told twice: facts and stands share theirs, happenings have their own."""
    name = first_again([fact[0] for fact in chart[0]] + tree.names)
    if name is None:
        name = first_again(chart[1])
    return None if name is None else ("twice", name)


def root_wrong(tree):
    """Whether the root can have no stands in it."""
    return None if tree.has_root() else ("root",)


def first_wrong(tree):
    """The first one of which no stand can be its first."""
    for number, markers in tree.markers.items():
        stand = tree.stands[number]
        if stand[1] == "one" and len(markers) == len(stand[2]):
            return ("first", stand[0])
    return None


def misplaced(stand):
    """The names of the markers straight in the stand that may not stand there."""
    names = []
    seen = []
    for inner in stand[2]:
        if inner[1] in MARKER_SORTS:
            if stand[1] != "one" or inner[1] in seen:
                names.append(inner[0])
            seen.append(inner[1])
    return names


def marker_wrong(tree):
    """The first marker, in the chart's order, that may not stand where it does."""
    names = [name for number in tree.markers for name in misplaced(tree.stands[number])]
    for name in tree.names:
        if name in names:
            return ("marker", name)
    return None


def names_word(tree, parts):
    """The word of what is wrong with the names that were found, else None."""
    numbers = tree.numbers
    if parts.strange_facts:
        return "fact"
    if parts.strange_happenings:
        return "happening"
    for name in parts.asked:
        if not isinstance(name, str) or name not in numbers:
            return "in"
        if tree.markers and tree.stands[numbers[name]][1] in MARKER_SORTS:
            return "in"
    for goals in parts.goals:
        for goal in goals:
            # Number 0, the root's, is no goal's either.
            if not isinstance(goal, str) or not numbers.get(goal):
                return "goal"
        if len(goals) > 1 and not tree.are_together([numbers[goal] for goal in goals]):
            return "goal"
    return None


def word_of(chart, tree, moving, deeds, is_deep):
    """The word of what is wrong with moves of stands, tuples (number, moves), or with deeds, else None; terms and
    guards are looked at where it is deep."""
    parts = parts_of(chart)
    parts.deeds.extend(deeds)
    parts.take_moves(moving)
    parts.take_deeds()
    if is_deep:
        parts.take_levels()
    word = names_word(tree, parts)
    if word is None and [number for number in parts.done_movers if not tree.may_be_done(number)]:
        return "done"
    return word


def are_rows_right(chart, tree, numbers, is_deep):
    """Whether nothing is wrong with what the rows of stands name, by their numbers."""
    stands = [tree.stands[number] for number in numbers]
    moving = [(number, tree.stands[number][5]) for number in numbers]
    deeds = [deed for stand in stands for deed in stand[3] + stand[4]]
    return word_of(chart, tree, moving, deeds, is_deep) is None


def name_wrong(chart, tree, is_deep):
    """The first row of a stand that names what isn't there, or may not be named there, as one does."""
    many = len(tree.stands)
    number = first_of(many, lambda low, high: are_rows_right(chart, tree, list(range(low, high)), is_deep))
    stand = tree.stands[number]
    rows = [((), stand[3]), ((), stand[4])] + [((move,), ()) for move in stand[5]]
    for k, (moves, deeds) in enumerate(rows):
        word = word_of(chart, tree, [(number, moves)], deeds, is_deep)
        if word is not None:
            return (word, stand[0], k)
    return None


def first_name_fault(chart, tree, parts):
    """What is wrong first with a thing that is no chart, but all stands of which are some by their own form, with the
    tree of these and what was found in them."""
    wrong = twice_wrong(chart, tree) or root_wrong(tree) or first_wrong(tree) or marker_wrong(tree)
    if wrong is not None:
        return wrong
    asked = [name for name in parts.asked if not tree.is_plain(name)]
    return name_wrong(chart, tree, len(parts.strange_facts) > 0 or len(asked) > 0)
