"""What a whole number is, what a NAME is, and copies that share no list."""

LETTERS = "abcdefghijklmnopqrstuvwxyz"
FIGURES = "0123456789"
MOST_SIGNS = 8
MOST_FIGURES = 9
GREATEST = 999999999
SORTS = ("one", "all", "leaf", "end", "back", "deep")
FULL_SORTS = ("one", "all")
MARKER_SORTS = ("back", "deep")
KEYWORDS = {
    "fact": True, "on": True, "one": True, "all": True, "leaf": True, "end": True, "back": True, "deep": True,
    "into": True, "out": True, "go": True, "after": True, "done": True, "if": True, "do": True, "to": True,
    "set": True, "raise": True, "say": True, "in": True, "not": True, "and": True, "or": True, "yes": True,
}


def is_whole(thing):
    """Whether it is an int that is no truth."""
    return isinstance(thing, int) and not isinstance(thing, bool)


def is_name(thing):
    """Whether it is a NAME."""
    if not isinstance(thing, str) or len(thing) > MOST_SIGNS or thing in KEYWORDS:
        return False
    # An identifier begins with no figure; isalnum leaves its underscores out, islower its great letters.
    return thing.isascii() and thing.isidentifier() and thing.isalnum() and thing.islower()


def own(thing):
    """The thing, where it has a list in it a copy of which every list is a new one: what an error tells doesn't change
    with what was handed in."""
    waiting = [(thing, False)]
    made = []
    has_list = False
    while waiting:
        part, opened = waiting.pop()
        if not isinstance(part, (list, tuple)):
            made.append(part)
        elif opened:
            start = len(made) - len(part)
            parts = made[start:]
            del made[start:]
            made.append(parts if isinstance(part, list) else tuple(parts))
        else:
            has_list = has_list or isinstance(part, list)
            waiting.append((part, True))
            waiting.extend([(inner, False) for inner in part[::-1]])
    return made[0] if has_list else thing
