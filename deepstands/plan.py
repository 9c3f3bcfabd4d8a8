"""What a run goes by: a chart's stands by their numbers, and what is found out about them as a run goes.

What a run has come to is told by a CODE, a whole number: the bit of each stand's number tells whether it is stood in,
bits behind these the ages of the stands that may have one, others the worths of the facts, each as so much above its
low, and the last ones the number of what markers keep. Two codes of a plan are the same just where they tell of one
standing."""

from deepstands.charts import tree_of
from deepstands.kinds import MARKER_SORTS
from deepstands.parts import YES
from deepstands.terms import bits_of_stands

TICK = ("tick",)
# So many bits an age has, and so many at most what markers keep.
AGE_SIZE = 7
AGE_BITS = 127
KEPT_SIZE = 40


class Plan:
    """A chart to go by. What isn't asked for isn't found out: a single step asks for little of it. Where it is shared
    by many steps what was found out for one of them is there for others."""

    def __init__(self, facts, happenings, tree, is_shared):
        self.facts = facts
        self.happenings = happenings
        self.tree = tree
        self.names = tree.names
        self.stands = tree.stands
        self.numbers = tree.numbers
        self.is_shared = is_shared
        # The guard of a move that always holds.
        self.yes = YES
        # The addresses of moves that fit a what that is taken, None where they needn't be noted.
        self.marks = None
        self.lay_out()
        # By the numbers of stands the stands straight in them, markers apart; by moves their ways, and the bits of the
        # facts that their guards ask for; rooms by their numbers, and by what moves leads to them; by whats their
        # tables, None till they are asked for.
        self.plain_inner = {}
        self.ways = {}
        self.guard_bits = {}
        self.rooms = {}
        self.tables = None
        # By whats, or by what is chosen, and the bits of a code but for those of the facts, what was found out of
        # these; the code at which worths were asked for last, and these.
        self.once = {}
        self.last_code = -1
        self.last_worths = {}
        # The bits of the stands that have deeds that are done when they are left, and of those that have markers
        # straight in them, None till they are asked for.
        self.outs = None
        self.marked = None
        # By bits of codes what is told of what is stood in, what of this has an age, what is told of all but the
        # worths, and of these; by the names of what is stood in what was read of them.
        self.stood = {}
        self.aging = {}
        self.shown = {}
        self.worths = {}
        self.stood_known = {}

    def lay_out(self):
        """Gives everything its bits."""
        self.stood_bits = (1 << len(self.names)) - 1
        # Where the bits of ages begin, by the numbers of stands.
        self.shifts = {}
        self.aging_bits = 0
        many = self.lay_ages_out(len(self.names)) if self.tree.greatest else len(self.names)
        self.age_bits = (1 << many) - 1 ^ self.stood_bits
        # By the names of facts tuples (name, shift, bits, low, high), in order.
        self.fields = {}
        self.fact_bits = 0
        for name, low, high, _ in self.facts:
            size = (high - low).bit_length()
            bits = (1 << size) - 1 << many
            self.fields[name] = (name, many, bits, low, high)
            self.fact_bits |= bits
            many += size
        self.kept_shift = many
        self.code_bits = (1 << many + KEPT_SIZE) - 1 if self.tree.markers else (1 << many) - 1
        self.kept_bits = self.code_bits ^ (1 << many) - 1
        self.other_bits = self.code_bits ^ self.fact_bits
        # What is kept, tuples of (marker, numbers) in order, by its number; and these numbers.
        self.kepts = [()]
        self.kept_numbers = {(): 0}
        # What the markers straight in a one keep, by its number and the bits of what is stood in in it.
        self.keeps = {}

    def lay_ages_out(self, many):
        """Gives ages their bits, from so many bits on; told is how many there are then."""
        tree = self.tree
        places = {}
        for number in tree.greatest:
            # Of leaves and ends straight in a one but one is stood in, so theirs are at the same place.
            place = number
            if self.is_shared and tree.last[number] == number and self.stands[tree.above[number]][1] == "one":
                place = ~tree.above[number]
            self.shifts[number] = many + AGE_SIZE * places.setdefault(place, len(places))
            self.aging_bits |= 1 << number
        return many + AGE_SIZE * len(places)

    def read_guard(self, part):
        """The guard of a move."""
        return part

    def read_deeds(self, part):
        """The deeds of a stand or of a move."""
        return part

    def bits_asked_in(self, part):
        """The bits of the stands that the guard of a move asks for."""
        return bits_of_stands(part, self.numbers)

    def bits_out(self):
        """The bits of the stands that have deeds that are done when they are left."""
        if self.outs is None:
            self.outs = self.bits_of(self.tree.outs)
        return self.outs

    def bits_marked(self):
        """The bits of the stands that have markers straight in them."""
        if self.marked is None:
            self.marked = self.bits_of(self.tree.markers)
        return self.marked

    def has_marker(self, numbers):
        """Whether any of these stands is a marker."""
        if self.tree.markers:
            for number in numbers:
                if self.stands[number][1] in MARKER_SORTS:
                    return True
        return False

    def all_moving(self):
        """Tuples (number, moves) of all stands that have moves."""
        return self.tree.moving

    def inner(self, number):
        """The numbers of the stands straight in a stand, markers apart."""
        found = self.plain_inner.get(number)
        if found is None:
            found = []
            last = self.tree.last
            inner = number + 1
            while inner <= last[number]:
                if self.stands[inner][1] not in MARKER_SORTS:
                    found.append(inner)
                inner = last[inner] + 1
            self.plain_inner[number] = found
        return found

    def bits_of(self, numbers):
        """The bits of stands."""
        bits = 0
        for number in numbers:
            bits |= 1 << number
        return bits

    def bits_of_facts(self, names):
        """The bits of facts."""
        bits = 0
        for name in names:
            bits |= self.fields[name][2]
        return bits

    def bits_in(self, number):
        """The bits of all stands properly within one."""
        return (2 << self.tree.last[number]) - (2 << number)

    def ages_in(self, number):
        """The bits of the ages of these."""
        bits = 0
        last = self.tree.last[number]
        for inner, shift in self.shifts.items():
            if number < inner <= last:
                bits |= AGE_BITS << shift
        return bits

    def bits_of_what(self, what):
        """The bits of a code that matter to a what whatever the moves by it are."""
        if what[0] == "on":
            return 0
        if what == TICK:
            return self.age_bits | self.aging_bits
        return self.bits_of(self.inner(self.numbers[what[1]]))

    def kept_at(self, code):
        """What markers keep."""
        return self.kepts[code >> self.kept_shift]

    def bits_kept(self, kept):
        """The bits of what markers keep."""
        number = self.kept_numbers.get(kept)
        if number is None:
            number = self.kept_numbers[kept] = len(self.kepts)
            self.kepts.append(kept)
        return number << self.kept_shift

    def stood_at(self, code):
        """The names of what is stood in, in order."""
        bits = code & self.stood_bits
        found = self.stood.get(bits)
        if found is None:
            found = [name for number, name in enumerate(self.names) if bits >> number & 1]
            found = self.stood[bits] = tuple(found)
        return found

    def aging_at(self, code):
        """The stands stood in that have an age, in order: tuples (number, shift)."""
        bits = code & self.aging_bits
        found = self.aging.get(bits)
        if found is None:
            found = [(number, shift) for number, shift in self.shifts.items() if bits >> number & 1]
            self.aging[bits] = found
        return found

    def grown(self, code):
        """A code at which all ages are grown by one."""
        greatest = self.tree.greatest
        for number, shift in self.aging_at(code):
            if code >> shift & AGE_BITS <= greatest[number]:
                code += 1 << shift
        return code

    def mark(self, moves):
        """Notes moves (number, k) that fit a what that is taken."""
        for number, k in moves:
            self.marks[(self.names[number], k)] = True

    def worths_by_name(self, code):
        """The worths by the facts' names; not to be changed."""
        # Guards and deeds ask at one code.
        if code != self.last_code:
            self.last_code = code
            self.last_worths = {
                name: ((code & bits) >> shift) + low for name, shift, bits, low, _ in self.fields.values()
            }
        return self.last_worths

    def bits_of_worths(self, worths):
        """The bits of worths in the facts' order."""
        bits = 0
        for (_, shift, _, low, _), worth in zip(self.fields.values(), worths):
            bits |= worth - low << shift
        return bits

    def knows_happening(self, thing):
        """Whether it is a happening of the chart, or tick."""
        return thing == "tick" or thing in self.happenings

    def knows_what(self, thing):
        """Whether it is a what."""
        if not isinstance(thing, tuple) or len(thing) != 2:
            return thing == TICK
        if thing[0] == "on":
            return thing[1] in self.happenings
        return thing[0] == "done" and self.tree.knows(thing[1]) and self.stands[self.numbers[thing[1]]][1] == "one"


def what_of(happening):
    """The what that a happening, or tick, is."""
    return TICK if happening == "tick" else ("on", happening)


def plan_of(chart):
    """The plan of a chart, for one step; what is none is refused."""
    tree = tree_of(chart)
    return Plan(chart[0], chart[1], tree, False)


def shared_plan_of(chart):
    """The same, for many steps."""
    tree = tree_of(chart)
    return Plan(chart[0], chart[1], tree, True)
