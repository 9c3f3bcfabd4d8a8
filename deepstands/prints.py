"""The words in which a chart's parts are printed."""

SIGNS = {"sum": "+", "less": "-", "below": "<", "same": "=", "both": "and", "either": "or"}


def bracketed(text, wanted):
    """The text, in brackets where they are wanted."""
    return f"({text})" if wanted else text


def term_words(term):
    """A term."""
    word = term[0]
    if word == "num":
        return str(term[1])
    if word == "fact":
        return term[1]
    second = bracketed(term_words(term[2]), term[2][0] in ("sum", "less"))
    return f"{term_words(term[1])} {SIGNS[word]} {second}"


def guard_words(guard):
    """A guard."""
    word = guard[0]
    if word == "yes":
        return "yes"
    if word == "in":
        return f"in {guard[1]}"
    if word == "not":
        return "not " + bracketed(guard_words(guard[1]), guard[1][0] in ("both", "either"))
    if word in ("below", "same"):
        return f"{term_words(guard[1])} {SIGNS[word]} {term_words(guard[2])}"
    first = bracketed(guard_words(guard[1]), word == "both" and guard[1][0] == "either")
    second = bracketed(guard_words(guard[2]), guard[2][0] in ("both", "either"))
    return f"{first} {SIGNS[word]} {second}"


def deed_words(deed):
    """A deed."""
    if deed[0] == "raise":
        return f"raise {deed[1]}"
    return f"{deed[0]} {deed[1]} {term_words(deed[2])}"


def deeds_words(deeds):
    """Deeds."""
    return ", ".join([deed_words(deed) for deed in deeds])


def move_words(move):
    """A move."""
    when, guard, deeds, goals = move
    words = "go " + " ".join([str(part) for part in when])
    if guard != ("yes",):
        words += " if " + guard_words(guard)
    if deeds:
        words += " do " + deeds_words(deeds)
    if goals:
        words += " to " + ", ".join(goals)
    return words


def inner_rows(stand):
    """The rows straight in a stand that begin no stand."""
    rows = []
    if stand[3]:
        rows.append(f"into {deeds_words(stand[3])}")
    if stand[4]:
        rows.append(f"out {deeds_words(stand[4])}")
    return rows + [move_words(move) for move in stand[5]]


def head_rows(chart):
    """The rows ahead of the root."""
    facts = [f"fact {name} {low} {high} {first}" for name, low, high, first in chart[0]]
    return facts + [f"on {happening}" for happening in chart[1]]
