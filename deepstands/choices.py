"""What whats do, found out but once for the bits of a code on which it hangs: runs come to the same ones again, and so
do all who go through many standings, of which most are alike but for what doesn't matter."""

from deepstands.moves import entry_by, entry_once, grown_turn, is_at_end, mover_of, turn_by
from deepstands.parts import DONE
from deepstands.plan import AGE_BITS, TICK
from deepstands.terms import note_guard_facts
from deepstands.turns import hanging_bits


class Table:
    """What a what does.

    Relevant are the bits of a code, but for those of the facts, that matter to it; numbers those of the stands that may
    have moves by it, in the up order."""

    def __init__(self, what, relevant):
        self.what = what
        self.relevant = relevant
        self.numbers = []
        self.bits = 0
        # By their numbers their moves by it, as tuples (k, part), part the guard as the plan has it; of the tick, which
        # asks for their ages, by (number, n).
        self.moves = {}
        # By the relevant bits.
        self.choices = {}

    def choice_at(self, plan, code):
        """What it does at a code, found out."""
        choice = self.choices[code & self.relevant] = Choice(plan, self, code & self.relevant)
        return choice

    def entry(self, plan, code):
        """The entry of its what at a code."""
        choice = self.choices.get(code & self.relevant) or self.choice_at(plan, code)
        return choice.fixed or choice.entry(plan, code)

    def movers(self, plan, code):
        """As movers_at tells them."""
        found = []
        is_tick = self.what == TICK
        hits = code & self.bits
        if not hits:
            return found
        # Most are alone.
        numbers = [hits.bit_length() - 1] if hits & hits - 1 == 0 else self.numbers
        for number in numbers:
            if hits >> number & 1:
                key = (number, code >> plan.shifts[number] & AGE_BITS) if is_tick else number
                for k, part in self.moves.get(key, ()):
                    found.append(mover_of(plan, number, k, part))
        if found and self.what[0] == "done" and not is_at_end(plan, code, plan.numbers[self.what[1]]):
            return []
        return found


class Choice:
    """What a table's what does at codes of which these are the relevant bits."""

    def __init__(self, plan, table, bits):
        # The ages are those at which it is taken.
        self.is_tick = table.what == TICK and len(plan.shifts) > 0
        self.stood = plan.grown(bits) if self.is_tick else bits
        self.movers_there = table.movers(plan, self.stood)
        # The bits of the facts on which hangs what is chosen, and by these the effects.
        self.bits = bits_of_guards(plan, self.movers_there)
        self.effects = {}
        # The entry, where it hangs on nothing else.
        self.fixed = None
        if self.bits == 0:
            turn = self.turn_at(plan, bits)
            if turn[1] is None:
                self.fixed = entry_by(plan, turn, bits)
            else:
                effect = self.effects[0] = Effect(plan, turn)
                if effect.bits == 0:
                    self.fixed = effect.entry(plan, bits)

    def turn_at(self, plan, code):
        """The turn of what is chosen at a code."""
        turn = turn_by(plan, self.movers_there, self.stood, code)
        return grown_turn(plan, turn, self.stood) if self.is_tick else turn

    def entry(self, plan, code):
        """The entry at a code."""
        effect = self.effects.get(code & self.bits)
        if effect is None:
            effect = self.effects[code & self.bits] = Effect(plan, self.turn_at(plan, code))
        return effect.known.get(code & effect.bits) or effect.entry(plan, code)


class Effect:
    """What a turn does."""

    def __init__(self, plan, turn):
        self.turn = turn
        # The bits of the facts that its deeds ask for, and by these the entries.
        self.bits = 0 if turn[1] is None else turn[1].bits_asked(plan)
        self.known = {}

    def entry(self, plan, code):
        """The entry at a code, found out."""
        entry = self.known[code & self.bits] = entry_by(plan, self.turn, code)
        return entry


def bits_of_guards(plan, movers):
    """The bits of the facts that the guards of movers ask for."""
    bits = 0
    for _, move, guard in movers:
        if guard is not None:
            if move not in plan.guard_bits:
                facts = {}
                note_guard_facts(guard, facts)
                plan.guard_bits[move] = plan.bits_of_facts(facts)
            bits |= plan.guard_bits[move]
    return bits


def tables_by(plan):
    """The tables of all whats by which moves are."""
    tables = {}
    for number, moves in plan.all_moving():
        for k, (when, part, _, goals) in enumerate(moves):
            what, key = when, number
            if when[0] == "after":
                what, key = TICK, (number, when[1])
            elif when == DONE:
                what = ("done", plan.names[number])
            table = tables.get(what)
            if table is None:
                table = tables[what] = Table(what, plan.bits_of_what(what))
            if not table.numbers or table.numbers[-1] != number:
                table.numbers.append(number)
                table.bits |= 1 << number
            if key in table.moves:
                table.moves[key].append((k, part))
            else:
                table.moves[key] = [(k, part)]
            if part != plan.yes:
                table.relevant |= plan.bits_asked_in(part)
            if goals:
                table.relevant |= hanging_bits(plan, number, goals)
    last = plan.tree.last
    for table in tables.values():
        table.relevant |= table.bits
        # As movers_at tells them.
        table.numbers = sorted(table.numbers, key=lambda number: (last[number], -number))
    return tables


def table_of(plan, what):
    """The table of a what, of a plan that is shared."""
    if plan.tables is None:
        plan.tables = tables_by(plan)
    table = plan.tables.get(what)
    if table is None:
        table = plan.tables[what] = Table(what, plan.bits_of_what(what))
    return table


def entry_of(plan, what, code):
    """The entry of a what at a code."""
    return table_of(plan, what).entry(plan, code) if plan.is_shared else entry_once(plan, what, code)
