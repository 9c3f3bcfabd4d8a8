"""Steps: whats are taken one behind the other, moves chosen and done.

An outcome is a tuple (told, went, code, fault): told a tuple of all that is said, or the word of a refusal; went the
addresses of all moves that are chosen; the code behind it; fault the fact and the stand of a Beyond, else None."""

from deepstands.acts import acts_by
from deepstands.choices import entry_of
from deepstands.errors import Beyond, Endless
from deepstands.turns import entered_first, intos_of

MOST_INNER = 50
# Up to so many it isn't asked whether they come again.
FEW_INNER = 4
BEYOND = "Beyond"
ENDLESS = "Endless"


def is_endless(many, key, seen):
    """Whether inner whats, of which this is so many, will be too many: those that come again will come again and again,
    and all that would be chosen then was chosen."""
    if many > MOST_INNER or key in seen:
        return True
    seen[key] = True
    return False


def run(plan, code, waiting, many, taken):
    """Takes whats that are waiting, and inner ones, till there are none; many inner ones were taken, -1 where the first
    of these is none. Of each (what, went, code, keep, enter) is put to taken, where that is told. Told is an outcome,
    without the code where it is refused."""
    heard, went = (), ()
    seen = {}
    while waiting:
        many += 1
        if many > FEW_INNER and is_endless(many, (code, tuple(waiting)), seen):
            return ENDLESS, went, None, None
        what = waiting.pop(0)
        said, gone, raised, keep, enter = entry_of(plan, what, code)
        if taken is not None:
            taken.append((what, gone, code, keep, enter))
        went = went + gone
        if said is None:
            return BEYOND, went, None, raised
        heard = heard + said
        waiting.extend(raised)
        code = code & keep | enter
    return heard, went, code, None


def outcome_by(plan, code, entry):
    """The outcome of a happening at a code, by the entry of its what."""
    said, went, raised, keep, enter = entry
    if said is None:
        return BEYOND, went, code, raised
    if not raised:
        return said, went, code & keep | enter, None
    told, more, behind, fault = run(plan, code & keep | enter, list(raised), 0, None)
    if behind is None:
        return told, went + more, code, fault
    return said + told, went + more, behind, None


def outcome_of_begin(plan, taken=None):
    """The outcome of the begin, without the code where it is refused."""
    entered = entered_first(plan)
    stood = plan.bits_of(entered)
    if taken is not None:
        taken.append((("start",), (), 0, 0, stood))
    code = stood | plan.bits_of_worths([fact[3] for fact in plan.facts])
    said, raised = (), ()
    acts = acts_by(intos_of(plan, entered))
    if acts is not None:
        said, raised, cleared, changed = acts.do_at(plan, code)
        if said is None:
            return BEYOND, (), None, raised
        code = code & (plan.code_bits ^ cleared) | changed
    told, went, behind, fault = run(plan, code, list(raised), 0, taken)
    return (told if behind is None else said + told), went, behind, fault


def unrefused(outcome):
    """An outcome that must not be a refusal."""
    told, _, _, fault = outcome
    if told == BEYOND:
        raise Beyond(fault[0], fault[1])
    if told == ENDLESS:
        raise Endless()
    return outcome


def begun(plan):
    """The begin of a plan's chart: the code behind it, and what it said."""
    told, _, code, _ = unrefused(outcome_of_begin(plan))
    return code, told


def stepped(plan, code, what):
    """A step from a code by a happening's what: the code behind it, and what it said."""
    entry = entry_of(plan, what, code)
    told, _, behind, _ = unrefused(outcome_by(plan, code, entry))
    return behind, told
