"""Terms and guards: what they come to, what they ask for."""


def worth_of(term, worths):
    """The worth of a term, by the facts' worths."""
    word = term[0]
    if word == "fact":
        return worths[term[1]]
    if word == "num":
        return term[1]
    one = worth_of(term[1], worths)
    other = worth_of(term[2], worths)
    return one + other if word == "sum" else one - other


def holds(guard, code, numbers, worths):
    """Whether a guard holds, by the bits of what is stood in, the numbers of stands and the facts' worths."""
    word = guard[0]
    if word == "below":
        return worth_of(guard[1], worths) < worth_of(guard[2], worths)
    if word == "same":
        return worth_of(guard[1], worths) == worth_of(guard[2], worths)
    if word == "in":
        return code >> numbers[guard[1]] & 1 == 1
    if word == "not":
        return not holds(guard[1], code, numbers, worths)
    if word == "both":
        return holds(guard[1], code, numbers, worths) and holds(guard[2], code, numbers, worths)
    return word == "yes" or holds(guard[1], code, numbers, worths) or holds(guard[2], code, numbers, worths)


def note_facts(term, found):
    """Notes the facts that a term asks for."""
    word = term[0]
    if word == "fact":
        found[term[1]] = True
    elif word != "num":
        note_facts(term[1], found)
        note_facts(term[2], found)


def bits_of_stands(guard, numbers):
    """The bits of the stands that a guard asks for, by the numbers of stands."""
    word = guard[0]
    if word == "in":
        return 1 << numbers[guard[1]]
    if word == "not":
        return bits_of_stands(guard[1], numbers)
    if word == "both" or word == "either":
        return bits_of_stands(guard[1], numbers) | bits_of_stands(guard[2], numbers)
    return 0


def note_guard_facts(guard, found):
    """Notes the facts that a guard asks for."""
    word = guard[0]
    if word == "not":
        note_guard_facts(guard[1], found)
    elif word == "both" or word == "either":
        note_guard_facts(guard[1], found)
        note_guard_facts(guard[2], found)
    elif word == "below" or word == "same":
        note_facts(guard[1], found)
        note_facts(guard[2], found)
