"""Two charts of the same happenings, side by side: the pairs of standings to which rows come, and papers about them."""

from deepstands.errors import TooGreat, Unlike
from deepstands.papers import number_for
from deepstands.plan import shared_plan_of
from deepstands.web import Web


class Sides:
    """The webs of two charts; refused as these are, and where they have unlike happenings. A pair is a tuple of the
    numbers of two standings; happenings are told by their numbers in the first one."""

    def __init__(self, one, other):
        first_plan = shared_plan_of(one)
        second_plan = shared_plan_of(other)
        if sorted(first_plan.happenings) != sorted(second_plan.happenings):
            raise Unlike()
        self.first = Web(first_plan)
        self.second = Web(second_plan)
        self.happenings = self.first.happenings
        self.places = [self.second.happenings.index(happening) for happening in self.happenings]

    def are_begins_alike(self):
        """Whether both begins say the same."""
        return self.first.begin_told == self.second.begin_told

    def go(self, pair, at):
        """Whether a happening tells the same of both of a pair, and the pair behind it."""
        told, _, behind = self.first.cell(pair[0], at)
        other_told, _, other_behind = self.second.cell(pair[1], self.places[at])
        return told == other_told, (behind, other_behind)


class Pairs:
    """The pairs to which rows come, as they come."""

    def __init__(self, sides, most):
        self.sides = sides
        self.most = most
        self.noted = [(0, 0)]
        self.places = {(0, 0): 0}
        # By their places the place of the pair, and the happening, from which they were come to.
        self.origins = [None]

    def note(self, pair, place, at):
        """Notes a pair that follows the one at a place, where it is a new one."""
        if pair not in self.places:
            if len(self.noted) >= self.most:
                raise TooGreat(self.most)
            self.places[pair] = len(self.noted)
            self.noted.append(pair)
            self.origins.append((place, at))

    def row_by(self, place, at):
        """The row to the pair at a place, and by a happening on."""
        row = [self.sides.happenings[at]]
        while self.origins[place] is not None:
            place, ahead = self.origins[place]
            row.append(self.sides.happenings[ahead])
        return row[::-1]

    def go_through(self):
        """Goes on from each pair by each happening; told is a row whose last happening tells unlike, None where none
        does."""
        place = 0
        while place < len(self.noted):
            for at in range(len(self.sides.happenings)):
                same, behind = self.sides.go(self.noted[place], at)
                if not same:
                    return self.row_by(place, at)
                self.note(behind, place, at)
            place += 1
        return None


def pairs_for(sides, things):
    """The pairs of a list of tuples of two standings, None where it is none."""
    if not isinstance(things, list):
        return None
    pairs = []
    for thing in things:
        if not isinstance(thing, tuple) or len(thing) != 2:
            return None
        first = number_for(sides.first, thing[0])
        second = number_for(sides.second, thing[1])
        if first is None or second is None:
            return None
        pairs.append((first, second))
    return pairs


def pairs_wrong(sides, things):
    """What is wrong first with a paper that two charts are alike."""
    pairs = pairs_for(sides, things)
    if pairs is None:
        return ("paper",)
    there = {pair: True for pair in pairs}
    if not sides.are_begins_alike() or (0, 0) not in there:
        return ("begin",)
    for k, pair in enumerate(pairs):
        for at, happening in enumerate(sides.happenings):
            same, behind = sides.go(pair, at)
            if not same:
                return ("unlike", k, happening)
            if behind not in there:
                return ("open", k, happening)
    return None


def row_wrong(sides, things):
    """What is wrong first with a paper of a row that parts two charts."""
    if not isinstance(things, list) or not all([sides.first.plan.knows_happening(thing) for thing in things]):
        return ("paper",)
    same = sides.are_begins_alike()
    pair = (0, 0)
    for happening in things:
        if not same:
            return ("row",)
        same, pair = sides.go(pair, sides.happenings.index(happening))
    return ("end",) if same else None


def alike_fault(sides, thing):
    """What is wrong first with a thing, None where it shows of two charts that they are alike, or not."""
    if not isinstance(thing, tuple) or len(thing) != 2:
        return ("paper",)
    if thing[0] == "alike":
        return pairs_wrong(sides, thing[1])
    return row_wrong(sides, thing[1]) if thing[0] == "parts" else ("paper",)
