"""What a whole number is, what a NAME is, and copies that share no list."""

LETTERS = "abcdefghijklmnopqrstuvwxyz"
FIGURES = "0123456789"
MOST_SIGNS = 8
MOST_FIGURES = 9
GREATEST = 999999999
SORTS = ("one", "all", "leaf", "end", "back", "deep")
FULL_SORTS = ("one", "all")
MARKER_SORTS = ("back", "deep")
KEYWORDS = (
    "fact", "on", "one", "all", "leaf", "end", "back", "deep", "into", "out", "go", "after", "done", "if",
    "do", "to", "set", "raise", "say", "in", "not", "and", "or", "yes",
)


def is_whole(thing):
    """Whether it is an int that is no truth."""
    return isinstance(thing, int) and not isinstance(thing, bool)


def is_name(thing):
    """Whether it is a NAME."""
    if not isinstance(thing, str) or thing == "" or len(thing) > MOST_SIGNS or thing in KEYWORDS:
        return False
    return thing[0] in LETTERS and all([sign in LETTERS + FIGURES for sign in thing])


def own(thing):
    """A copy of which every list is a new one: what an error tells doesn't change with what was handed in."""
    waiting = [(thing, False)]
    made = []
    while waiting:
        part, opened = waiting.pop()
        if not isinstance(part, (list, tuple)):
            made.append(part)
        elif opened:
            start = len(made) - len(part)
            parts = made[start:]
            del made[start:]
            made.append(parts if isinstance(part, list) else tuple(parts))
        else:
            waiting.append((part, True))
            waiting.extend([(inner, False) for inner in part[::-1]])
    return made[0]
