"""Standings: whether a thing is one, and the codes that tell of them."""

from deepstands.errors import NoStanding
from deepstands.kinds import MARKER_SORTS
from deepstands.plan import AGE_BITS


def bits_inside(plan, top, names):
    """The bits of all that these are the names of, where they are all that may be stood in properly within a stand at
    one time, in order, else None; each of the names may be anything."""
    stands, numbers, above = plan.stands, plan.numbers, plan.tree.above
    found = 1 << top
    # How many stands straight in what was met there must be, less those that were met.
    lacking = many_inside(stands[top])
    behind = top
    for name in names:
        number = numbers.get(name) if isinstance(name, str) else None
        if number is None or number <= behind:
            return None
        one = above[number]
        # What is stood in in a one comes straight behind it; of an all as many as it has, so each of them.
        if one != behind and (not found >> one & 1 or stands[one][1] == "one"):
            return None
        found |= 1 << number
        sort = stands[number][1]
        if sort == "one":
            behind = number
            continue
        lacking -= 1
        behind = number
        if sort == "all":
            lacking += len(stands[number][2])
        elif sort in MARKER_SORTS:
            return None
    return None if lacking else found ^ 1 << top


def many_inside(stand):
    """How many stands straight in a stand are stood in when it is."""
    return 1 if stand[1] == "one" else len(stand[2])


def worth_bits(plan, worths):
    """The bits of what is a worth in its span of each fact, in order, else None."""
    fields = plan.fields
    if len(worths) != len(fields):
        return None
    found = 0
    for (_, shift, _, low, high), worth in zip(fields.values(), worths):
        if not isinstance(worth, int) or worth is True or worth is False or not low <= worth <= high:
            return None
        found |= worth - low << shift
    return found


def age_bits(aging, pairs):
    """The bits of the ages that these tell of, where they are those of stands, tuples (name, shift, greatest), else
    None."""
    if len(pairs) != len(aging):
        return None
    bits = 0
    for (name, shift, greatest), pair in zip(aging, pairs):
        if not isinstance(pair, tuple) or len(pair) != 2 or pair[0] != name:
            return None
        age = pair[1]
        if not isinstance(age, int) or age is True or age is False or not 0 <= age <= greatest:
            return None
        bits |= age << shift
    return bits


def numbers_kept(plan, number, names):
    """The numbers of what a stand keeps by these names, where it is a marker and may keep that, else None; the names
    may be anything."""
    sort = plan.stands[number][1]
    if sort == "deep":
        bits = bits_inside(plan, plan.tree.above[number], names)
        return None if bits is None else [plan.numbers[name] for name in names]
    if sort != "back" or len(names) != 1:
        return None
    inner = [k for k in plan.inner(plan.tree.above[number]) if plan.names[k] == names[0]]
    return inner or None


def kept_of(plan, pairs):
    """What markers keep by these, each once and in order: tuples (marker, numbers), else None."""
    kept = []
    behind = -1
    for pair in pairs:
        if not isinstance(pair, tuple) or len(pair) != 2:
            return None
        name, names = pair
        if not isinstance(name, str) or not isinstance(names, tuple):
            return None
        number = plan.numbers.get(name, -1)
        if number <= behind:
            return None
        numbers = numbers_kept(plan, number, names)
        if numbers is None:
            return None
        kept.append((number, tuple(numbers)))
        behind = number
    return tuple(kept)


def read_stood(plan, names):
    """The bits of what is stood in, where these are the names of all that may be at one time, in order, and what has an
    age then, tuples (name, shift, greatest); None else. The names may be anything."""
    if plan.stood_known and not [name for name in names if not isinstance(name, str)]:
        found = plan.stood_known.get(names)
        if found is not None:
            return found
    bits = bits_inside(plan, 0, names[1:]) if names[:1] == (plan.names[0],) else None
    if bits is None:
        return None
    # The root stands in nothing.
    bits |= 1
    greatest = plan.tree.greatest
    aging = [(plan.names[number], shift, greatest[number] + 1) for number, shift in plan.aging_at(bits)]
    found = plan.stood_known[names] = (bits, aging)
    plan.stood[bits] = names
    return found


def read_standing(plan, thing):
    """What is wrong first with a thing, None where it is a standing, and the code that tells of it then."""
    if not isinstance(thing, tuple) or len(thing) != 4:
        return ("form",), None
    stood, worths, pairs, kept = thing
    if not isinstance(stood, tuple) or not isinstance(worths, tuple):
        return ("form",), None
    if not isinstance(pairs, tuple) or not isinstance(kept, tuple):
        return ("form",), None
    found = read_stood(plan, stood)
    if found is None:
        return ("stood",), None
    code, aging = found
    worthy = worth_bits(plan, worths)
    if worthy is None:
        return ("worths",), None
    code |= worthy
    if pairs or aging:
        ages = age_bits(aging, pairs)
        if ages is None:
            return ("ages",), None
        code |= ages
    if kept:
        numbers = kept_of(plan, kept)
        if numbers is None:
            return ("kept",), None
        code |= plan.bits_kept(numbers)
    return None, code


def last_stood(plan, stood):
    """The names of those of what is stood in that have none stood in in them."""
    last, numbers = plan.tree.last, plan.numbers
    return [name for name in stood if last[numbers[name]] == numbers[name]]


def code_for(plan, standing):
    """The code that tells of a standing; what is none is refused."""
    wrong, code = read_standing(plan, standing)
    if wrong is not None:
        raise NoStanding(wrong)
    return code


def worths_at(plan, code):
    """The worths of the facts, in order."""
    found = plan.worths.get(code & plan.fact_bits)
    if found is None:
        found = plan.worths[code & plan.fact_bits] = tuple(plan.worths_by_name(code).values())
    return found


def shown_at(plan, code):
    """What is told of a code but for the worths: what is stood in, the ages, and what is kept."""
    names = plan.names
    ages, kept = (), ()
    if plan.shifts:
        ages = tuple([(names[number], code >> shift & AGE_BITS) for number, shift in plan.aging_at(code)])
    if plan.tree.markers:
        kept = [(names[marker], tuple([names[k] for k in numbers])) for marker, numbers in plan.kept_at(code)]
    return plan.stood_at(code), ages, tuple(kept)


def standing_of(plan, code):
    """The standing of which a code tells."""
    bits = code & plan.other_bits
    shown = plan.shown.get(bits)
    if shown is None:
        shown = plan.shown[bits] = shown_at(plan, code)
    stood, ages, kept = shown
    return (stood, plan.worths.get(code & plan.fact_bits) or worths_at(plan, code), ages, kept)
