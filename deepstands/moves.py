"""Which moves fit a what, which of them are chosen, and what they do.

A mover is a tuple (number, move, guard): the number of a move's stand, the move as (number, k), and its guard, None
where it always holds. An entry is a tuple (told, went, raised, keep, enter): what is said, or None where it is refused;
the addresses of the moves chosen; the inner whats that are raised, of what is refused the fact and the stand; the bits
of a code that stay, and those that are set then."""

from deepstands.parts import DONE
from deepstands.plan import AGE_BITS, TICK
from deepstands.terms import holds
from deepstands.turns import chosen_way, turn_of, way_of


def is_at_end(plan, code, number):
    """Whether a one is stood in, and an end straight in it."""
    if code >> number & 1:
        for inner in plan.inner(number):
            if code >> inner & 1:
                return plan.stands[inner][1] == "end"
    return False


def mover_of(plan, number, k, part):
    """The mover of a stand's move, part its guard as the plan has it."""
    return (number, (number, k), None if part == plan.yes else plan.read_guard(part))


def movers_at(plan, what, code):
    """The moves by a what of what is stood in at a code, in the up order; the ages are those at which it is taken."""
    key = (what, code & plan.other_bits)
    found = plan.once.get(key)
    if found is None:
        found = plan.once[key] = movers_found(plan, what, code)
    return found


def movers_found(plan, what, code):
    """The same, looked for."""
    if what == TICK:
        asked = [(number, ("after", code >> shift & AGE_BITS)) for number, shift in plan.aging_at(code)]
    elif what[0] == "on":
        asked = [(number, what) for number, _ in plan.all_moving() if code >> number & 1]
    else:
        done = plan.numbers[what[1]]
        asked = [(done, DONE)] if is_at_end(plan, code, done) else []
    found = []
    for number, when in asked:
        for k, (is_by, part, _, _) in enumerate(plan.stands[number][5]):
            if is_by == when:
                found.append(mover_of(plan, number, k, part))
    if len(found) > 1:
        last = plan.tree.last
        # What ends first comes first, of those that end together the innermost; moves of one stand as they are.
        return sorted(found, key=lambda mover: (last[mover[0]], -mover[0], mover[1]))
    return found


def fitting_of(plan, movers, stood, code):
    """Those of the movers of which the guards hold, by the bits of what is stood in and by a code's worths."""
    worths, numbers = plan.worths_by_name(code), plan.numbers
    return [mover for mover in movers if mover[2] is None or holds(mover[2], stood, numbers, worths)]


def picked_of(plan, movers, stood, code):
    """Of movers the moves that are chosen, as they are, by the bits of what is stood in and by a code's worths."""
    picked = ()
    tried, stands, worths = None, 0, None
    for number, move, guard in movers:
        # The moves of a stand stand together: behind one that fits no other one is tried.
        if number == tried:
            continue
        if guard is not None:
            if worths is None:
                worths = plan.worths_by_name(code)
            if not holds(guard, stood, plan.numbers, worths):
                continue
        tried = number
        if not picked or not stands & plan.bits_in(number) and is_free(plan, move, picked):
            picked = picked + (move,)
            stands |= 1 << number
    return picked


def is_free(plan, move, picked):
    """Whether a move would leave nothing that those picked ahead leave."""
    inside = way_of(plan, move).inside
    for ahead in picked:
        if inside & way_of(plan, ahead).inside:
            return False
    return True


def turn_by(plan, movers, stood, code):
    """The turn of what is chosen of movers, by the bits of what is stood in and kept, and by a code's worths."""
    if plan.marks is not None:
        plan.mark([move for _, move, _ in fitting_of(plan, movers, stood, code)])
    picked = picked_of(plan, movers, stood, code)
    if not picked:
        return ((), None, plan.code_bits, 0)
    turn = chosen_way(plan, picked[0]).turn if len(picked) == 1 else None
    if turn is None:
        key = (picked, stood & plan.other_bits)
        turn = plan.once.get(key)
        if turn is None:
            turn = plan.once[key] = turn_of(plan, stood, picked)
    return turn


def grown_turn(plan, turn, code):
    """A turn that sets all ages to those at a code, too, but of what is left and entered."""
    went, acts, keep, enter = turn
    return (went, acts, keep & (plan.code_bits ^ plan.age_bits), enter | code & plan.age_bits & keep)


def entry_by(plan, turn, code):
    """The entry of a turn at a code."""
    went, acts, keep, enter = turn
    if acts is None:
        return ((), went, (), keep, enter)
    said, raised, cleared, entered = acts.do_at(plan, code)
    return (said, went, raised, keep & (plan.code_bits ^ cleared), enter | entered)


def entry_once(plan, what, code):
    """The entry of a what at a code, whatever else is asked for."""
    if what != TICK or not plan.shifts:
        return entry_by(plan, turn_by(plan, movers_at(plan, what, code), code, code), code)
    grown = plan.grown(code)
    return entry_by(plan, grown_turn(plan, turn_by(plan, movers_at(plan, what, grown), grown, grown), grown), code)
