"""What stands in one row: terms, guards, deeds, moves, facts. Each function takes its words from the left, and refuses
the first one with which no text goes on."""

from deepstands.words import NAME, NUMBER

SUMS = {"+": "sum", "-": "less"}
COMPARED = {"<": "below", "=": "same"}


def read_part(words):
    """A part of a term."""
    kind = words.ahead()
    word = words.take(NUMBER, NAME, "(")
    if kind == NUMBER:
        return ("num", int(word))
    if kind == NAME:
        return ("fact", word)
    term = read_term(words)
    words.take(")")
    return term


def rest_of_term(words, term):
    """The term of which the first part was read."""
    while words.ahead() in SUMS:
        sign = words.take("+", "-")
        term = (SUMS[sign], term, read_part(words))
    return term


def read_term(words):
    """A TERM."""
    return rest_of_term(words, read_part(words))


def rest_of_comparison(words, term):
    """The guard that compares a term, which was read, with one behind it."""
    sign = words.take("<", "=")
    return (COMPARED[sign], term, read_term(words))


def read_either_kind(words):
    """What may be a term or a guard in brackets, as far as it goes: whether it is a term, and it."""
    if words.ahead() != "(":
        return True, rest_of_term(words, read_part(words))
    is_term, thing = read_bracket(words)
    if is_term:
        thing = rest_of_term(words, thing)
    return is_term, thing


def read_bracket(words):
    """( TERM ) or ( GUARD ): only what stands in it shows which one it is. Told as by read_either_kind."""
    words.take("(")
    is_term = words.ahead() not in ("not", "yes", "in")
    if is_term:
        is_term, thing = read_either_kind(words)
    else:
        thing = read_one(words)
    if is_term and words.ahead() != ")":
        is_term = False
        thing = rest_of_comparison(words, thing)
    if not is_term:
        thing = rest_of_guard(words, thing)
    words.take(")")
    return is_term, thing


def read_one(words):
    """A guard without and and or, but in brackets."""
    if words.take_if("not"):
        return ("not", read_one(words))
    if words.take_if("yes"):
        return ("yes",)
    if words.take_if("in"):
        return ("in", words.take(NAME))
    is_term, thing = read_either_kind(words)
    return rest_of_comparison(words, thing) if is_term else thing


def rest_of_both(words, guard):
    """The guards with and between them, of which the first was read."""
    while words.take_if("and"):
        guard = ("both", guard, read_one(words))
    return guard


def rest_of_guard(words, guard):
    """The guard of which the first one without and and or was read."""
    guard = rest_of_both(words, guard)
    while words.take_if("or"):
        guard = ("either", guard, rest_of_both(words, read_one(words)))
    return guard


def read_guard(words):
    """A GUARD."""
    return rest_of_guard(words, read_one(words))


def read_deed(words):
    """One deed."""
    word = words.take("set", "raise", "say")
    name = words.take(NAME)
    if word == "raise":
        return ("raise", name)
    return (word, name, read_term(words))


def read_deeds(words):
    """DEEDS."""
    deeds = [read_deed(words)]
    while words.take_if(","):
        deeds.append(read_deed(words))
    return tuple(deeds)


def read_goals(words):
    """One goal or more."""
    goals = [words.take(NAME)]
    while words.take_if(","):
        goals.append(words.take(NAME))
    return tuple(goals)


def read_when(words):
    """What a move is by."""
    word = words.take("on", "after", "done")
    if word == "on":
        return ("on", words.take(NAME))
    if word == "after":
        return ("after", int(words.take(NUMBER)))
    return ("done",)


def read_move(words):
    """A move, behind its go."""
    when = read_when(words)
    guard, deeds, goals = ("yes",), (), ()
    if words.take_if("if"):
        guard = read_guard(words)
    if words.take_if("do"):
        deeds = read_deeds(words)
    if words.take_if("to"):
        goals = read_goals(words)
    return (when, guard, deeds, goals)


def read_signed(words):
    """A number of a fact, perhaps with - ahead."""
    if words.take_if("-"):
        return -int(words.take(NUMBER))
    return int(words.take(NUMBER))


def read_fact(words):
    """A fact, behind its word."""
    name = words.take(NAME)
    low = read_signed(words)
    high = read_signed(words)
    return (name, low, high, read_signed(words))
