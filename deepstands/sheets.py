"""A text, row by row: which row may stand where, and the chart that comes of it."""

from deepstands.errors import NoText
from deepstands.grammar import read_deeds, read_fact, read_move
from deepstands.kinds import FULL_SORTS, MARKER_SORTS, SORTS
from deepstands.words import NAME, ROW_END, Words, blanks_of, is_passed, known_words

# What may stand straight in a stand ahead of the stands in it, in this order.
INNER_WORDS = ("into", "out", "go")


class Draft:
    """A stand of a text, with the numbers of its rows."""

    def __init__(self, name, sort, number):
        self.name = name
        self.kind = sort
        self.number = number
        self.into = ()
        self.out = ()
        self.moves = []
        self.move_numbers = []
        self.drafts = []
        # How many of the INNER_WORDS can't come any more.
        self.passed = 0

    def next_words(self):
        """The words with which the next row straight in it may begin."""
        stands = SORTS if self.kind in FULL_SORTS else ()
        return INNER_WORDS[self.passed:] + stands

    def read_inner(self, words):
        """Reads a row straight in it; told is the stand that the row begins, else None."""
        allowed = self.next_words()
        word = words.take(*allowed)
        if word not in INNER_WORDS:
            self.passed = len(INNER_WORDS)
            self.drafts.append(Draft(words.take(NAME), word, words.number))
            return self.drafts[-1]
        if word == "into":
            self.passed = 1
            self.into = read_deeds(words)
        elif word == "out":
            self.passed = 2
            self.out = read_deeds(words)
        else:
            self.passed = 2
            self.moves.append(read_move(words))
            self.move_numbers.append(words.number)
        return None

    def finished(self):
        """The STAND that it is."""
        stands = tuple([draft.finished() for draft in self.drafts])
        return (self.name, self.kind, stands, self.into, self.out, tuple(self.moves))

    def in_order(self):
        """It and all drafts in it, in the chart's order."""
        found = [self]
        for draft in self.drafts:
            found.extend(draft.in_order())
        return found


class Sheet:
    """A text as far as it was read."""

    def __init__(self):
        self.facts = []
        self.happenings = []
        self.root = None
        # The stands that the next row may stand straight in, the root first.
        self.opened = []
        self.known = known_words()

    def read_row(self, number, row):
        """Reads a row that isn't passed over."""
        words = Words(number, row, self.known)
        blanks = blanks_of(row)
        if self.root is None:
            if blanks != 0:
                raise NoText(number, 1)
            self.root = self.read_head(words)
            draft = self.root
        else:
            depth = blanks // 2
            if blanks % 2 != 0 or not 1 <= depth <= len(self.opened):
                raise NoText(number, 1)
            del self.opened[depth:]
            draft = self.opened[-1].read_inner(words)
        words.take(ROW_END)
        if draft is not None and draft.kind not in MARKER_SORTS:
            self.opened.append(draft)

    def read_head(self, words):
        """Reads a row of depth 0; told is the stand that it begins, else None."""
        allowed = ("on", *SORTS) if self.happenings else ("fact", "on", *SORTS)
        word = words.take(*allowed)
        if word == "fact":
            self.facts.append(read_fact(words))
        elif word == "on":
            self.happenings.append(words.take(NAME))
        else:
            return Draft(words.take(NAME), word, words.number)
        return None

    def chart(self):
        """The chart that it tells."""
        return (tuple(self.facts), tuple(self.happenings), self.root.finished())


def read_sheet(text):
    """The whole text, read."""
    sheet = Sheet()
    for at, row in enumerate(text):
        if not is_passed(row):
            sheet.read_row(at + 1, row)
    if sheet.root is None:
        raise NoText(len(text) + 1, 1)
    return sheet
