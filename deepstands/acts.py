"""Deeds that are done one behind the other, and what comes of them."""

from deepstands.terms import note_facts, worth_of


class Acts:
    """Deeds, tuples (number, deed) by the numbers of their stands, as they are done; ("done", NAME) is one, too: it
    puts that what behind the row."""

    def __init__(self, deeds):
        self.deeds = deeds
        # The bits of the facts that they ask for, None till these are asked for.
        self.bits = None

    def bits_asked(self, plan):
        """The bits of the facts that they ask for; what a fact that is only set was ahead doesn't matter."""
        if self.bits is None:
            found = {}
            for _, deed in self.deeds:
                if deed[0] == "set" or deed[0] == "say":
                    note_facts(deed[2], found)
            self.bits = plan.bits_of_facts(found)
        return self.bits

    def do_at(self, plan, code):
        """What comes of them: what is said, what is raised, the bits of facts that are set, and those that they have
        then; of such as are refused None, and the fact and the stand in the place of what is raised."""
        worths = plan.worths_by_name(code)
        said, raised, changed = [], [], {}
        for number, deed in self.deeds:
            word = deed[0]
            if word == "raise":
                raised.append(("on", deed[1]))
            elif word == "done":
                raised.append(deed)
            else:
                fact = deed[1]
                worth = worth_of(deed[2], worths)
                if word == "say":
                    said.append((fact, worth))
                    continue
                _, _, _, low, high = plan.fields[fact]
                if not low <= worth <= high:
                    return None, (fact, plan.names[number]), 0, 0
                if not changed:
                    worths = dict(worths)
                worths[fact] = changed[fact] = worth
        cleared = entered = 0
        for fact, worth in changed.items():
            _, shift, bits, low, _ = plan.fields[fact]
            cleared |= bits
            entered |= worth - low << shift
        return tuple(said), tuple(raised), cleared, entered


def acts_by(deeds):
    """The acts of such deeds, None where there are none."""
    return Acts(deeds) if deeds else None
