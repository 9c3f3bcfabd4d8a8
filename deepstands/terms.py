"""Terms and guards: what they come to, by the stands stood in and the worths of the facts."""


def worth_of(term, worths):
    """The worth of a term, by the facts' worths."""
    word = term[0]
    if word == "fact":
        return worths[term[1]]
    if word == "num":
        return term[1]
    one = worth_of(term[1], worths)
    other = worth_of(term[2], worths)
    return one + other if word == "sum" else one - other


def holds(guard, stood, worths):
    """Whether a guard holds, by the names of the stands stood in and the facts' worths."""
    word = guard[0]
    if word == "yes":
        return True
    if word == "in":
        return guard[1] in stood
    if word == "not":
        return not holds(guard[1], stood, worths)
    if word == "both":
        return holds(guard[1], stood, worths) and holds(guard[2], stood, worths)
    if word == "either":
        return holds(guard[1], stood, worths) or holds(guard[2], stood, worths)
    one = worth_of(guard[1], worths)
    other = worth_of(guard[2], worths)
    return one < other if word == "below" else one == other
