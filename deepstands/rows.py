"""The rows of code: what they tell of a chart, their texts, and the plan made of them.

The first row tells how many there are. Each fact, happening, stand and move has one; stands are in the chart's order
and known by their numbers in it, each move is behind its stand. Terms, guards and deeds are texts: each word ahead of
what belongs to it, so they need no brackets. What they tell is read of them only when a run comes to ask for it."""

from deepstands.errors import NoText
from deepstands.kinds import FIGURES
from deepstands.parts import DONE, YES
from deepstands.plan import Plan
from deepstands.tree import Tree

HEAD = "code"
# Signs that stand in no field of a row.
BETWEEN_FIELDS = ";"
BETWEEN_DEEDS = ","
# Ahead of a stand that is asked for.
ASKED = "@"
SIGNS = {"sum": "+", "less": "-", "below": "<", "same": "=", "both": "and", "either": "or"}
WORDS = {"+": "sum", "-": "less", "<": "below", "=": "same", "and": "both", "or": "either"}


def term_text(term):
    """The text of a term."""
    word = term[0]
    if word == "fact":
        return term[1]
    if word == "num":
        return str(term[1])
    return f"{SIGNS[word]} {term_text(term[1])} {term_text(term[2])}"


def guard_text(guard):
    """The text of a guard."""
    word = guard[0]
    if word == "both" or word == "either":
        return f"{SIGNS[word]} {guard_text(guard[1])} {guard_text(guard[2])}"
    if word == "in":
        return f"{ASKED}{guard[1]}"
    if word == "not":
        return f"not {guard_text(guard[1])}"
    if word == "yes":
        return word
    return f"{SIGNS[word]} {term_text(guard[1])} {term_text(guard[2])}"


def deed_text(deed):
    """The text of a deed."""
    if deed[0] == "raise":
        return f"raise {deed[1]}"
    return f"{deed[0]} {deed[1]} {term_text(deed[2])}"


def deeds_text(deeds):
    """The text of deeds."""
    return BETWEEN_DEEDS.join([deed_text(deed) for deed in deeds]) if deeds else ""


def part_of(words):
    """The term or guard of which these are the words."""
    made = []
    for word in words[::-1]:
        if word in WORDS:
            made.append((WORDS[word], made.pop(), made.pop()))
        elif word == "not":
            made.append((word, made.pop()))
        elif word == "yes":
            made.append(YES)
        elif word[0] == ASKED:
            made.append(("in", word[1:]))
        elif word[0] in FIGURES:
            made.append(("num", int(word)))
        else:
            made.append(("fact", word))
    return made[0]


def deed_of(text):
    """The deed of which this is the text."""
    words = text.split(" ")
    if words[0] == "raise":
        return ("raise", words[1])
    return (words[0], words[1], part_of(words[2:]))


class Made(Plan):
    """A plan of which the guards and deeds of stands and moves are texts."""

    def __init__(self, facts, happenings, tree):
        Plan.__init__(self, facts, happenings, tree, True)
        self.yes = "yes"
        # What was read, by the texts.
        self.guards_read = {}
        self.deeds_read = {}

    def read_guard(self, part):
        """The guard of a move."""
        found = self.guards_read.get(part)
        if found is None:
            found = self.guards_read[part] = part_of(part.split(" "))
        return found

    def bits_asked_in(self, part):
        """The bits of the stands that the guard of a move asks for."""
        if ASKED not in part:
            return 0
        return self.bits_of([self.numbers[word[1:]] for word in part.split(" ") if word[0] == ASKED])

    def all_moving(self):
        """Tuples (number, moves) of all stands that have moves."""
        return [(number, stand[5]) for number, stand in enumerate(self.stands) if stand[5]]

    def read_deeds(self, part):
        """The deeds of a stand or of a move."""
        found = self.deeds_read.get(part)
        if found is None:
            found = self.deeds_read[part] = tuple([deed_of(text) for text in part.split(BETWEEN_DEEDS)])
        return found


def when_text(when):
    """The text of what a move is by."""
    return when[0] if when == DONE else f"{when[0]} {when[1]}"


def when_of(text):
    """What a move is by, of which this is the text."""
    word, _, thing = text.partition(" ")
    if word == "on":
        return ("on", thing)
    return ("after", int(thing)) if word == "after" else DONE


def stand_rows(number, stand, above):
    """The rows of a stand and of its moves."""
    name, sort, _, into, out, moves = stand
    rows = [("stand", name, sort, above, deeds_text(into), deeds_text(out))]
    for when, guard, deeds, goals in moves:
        rows.append(("move", str(number), when_text(when), guard_text(guard), deeds_text(deeds), " ".join(goals)))
    return rows


def rows_of(plan):
    """The rows of a plan's chart."""
    rows = [("fact", name, str(low), str(high), str(first)) for name, low, high, first in plan.facts]
    rows.extend([("on", happening) for happening in plan.happenings])
    for number, stand in enumerate(plan.stands):
        above = plan.tree.above[number]
        rows.extend(stand_rows(number, stand, "" if above is None else str(above)))
    return [(HEAD, str(len(rows) + 1))] + rows


def add_stand(tree, row):
    """Notes the stand of a row in a tree."""
    _, name, sort, above, into, out = row
    above = int(above) if above else None
    number = tree.add_stand((name, sort, (), into, out, []), above)
    if sort == "back" or sort == "deep":
        tree.markers.setdefault(above, []).append(number)
    if out:
        tree.outs.append(number)
    # All that it is in goes on to here.
    while above is not None:
        tree.last[above] = number
        above = tree.above[above]


def add_move(tree, row):
    """Notes the move of a row in a tree."""
    _, number, when_told, guard, deeds, goals = row
    number = int(number)
    when = when_of(when_told)
    tree.stands[number][5].append((when, guard, deeds, goals.split(" ") if goals else []))
    if when[0] == "after":
        tree.greatest[number] = max(when[1], tree.greatest.get(number, 0))


def plan_by(rows):
    """The plan of which these are the rows."""
    facts, happenings = [], []
    tree = Tree()
    for row in rows:
        word = row[0]
        if word == "move":
            add_move(tree, row)
        elif word == "stand":
            add_stand(tree, row)
        elif word == "fact":
            facts.append((row[1], int(row[2]), int(row[3]), int(row[4])))
        elif word == "on":
            happenings.append(row[1])
    return Made(tuple(facts), tuple(happenings), tree)


def row_text(row):
    """The text of a row."""
    return BETWEEN_FIELDS.join(row)


def read_rows(text):
    """The rows of which this is the text; one of which a row is left out is refused."""
    rows = [tuple(line.split(BETWEEN_FIELDS)) for line in text.split("\n")]
    if rows[0] != (HEAD, str(len(rows))):
        raise NoText(0, 0)
    return rows
