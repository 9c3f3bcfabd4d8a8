"""The words of a row of a text, and taking them one by one."""

from deepstands.errors import NoText
from deepstands.kinds import FIGURES, KEYWORDS, LETTERS, MOST_FIGURES, MOST_SIGNS, is_name

MARKS = "()+-<=,"
PARTED = {40: " ( ", 41: " ) ", 43: " + ", 44: " , ", 45: " - ", 60: " < ", 61: " = "}
# The kinds of words; a keyword and a mark is a kind of its own.
NAME = "a name"
NUMBER = "a number"
NO_WORD = "no word"
ROW_END = "the row's end"


def end_of_run(row, at, signs, most):
    """Where a run of at most so many of the signs ends."""
    end = at
    while end < len(row) and end < at + most and row[end] in signs:
        end += 1
    return end


def end_of_word(row, at):
    """Where the word that begins at a place ends: at that very place where none begins there."""
    sign = row[at]
    if sign in MARKS:
        return at + 1
    # A run that went on to here was as long as it may be, so this sign is one too many.
    if at > 0 and row[at - 1] in LETTERS + FIGURES:
        return at
    if sign == "0":
        return at + 1
    if sign in FIGURES:
        return end_of_run(row, at, FIGURES, MOST_FIGURES)
    if sign in LETTERS:
        return end_of_run(row, at, LETTERS + FIGURES, MOST_SIGNS)
    return at


def kind_of(word):
    """The kind of a word; of no signs there is none."""
    if word == "":
        return NO_WORD
    if word in KEYWORDS or word in MARKS:
        return word
    return NUMBER if word[0] in FIGURES else NAME


def blanks_of(row):
    """How many blanks stand ahead of the first word."""
    return len(row) - len(row.lstrip(" "))


def is_passed(row):
    """Whether a row is passed over."""
    bare = row.lstrip(" ")
    return bare == "" or bare.startswith("--")


def words_of(row):
    """The words of a row, tuples (kind, word, column), and its end; the first sign that begins no word is the last."""
    words = []
    at = blanks_of(row)
    while at < len(row):
        end = end_of_word(row, at)
        words.append((kind_of(row[at:end]), row[at:end], at + 1))
        if end == at:
            return words
        at = end + blanks_of(row[end:])
    words.append((ROW_END, "", len(row.rstrip(" ")) + 1))
    return words


def known_words():
    """The kinds of the words that are their own kinds, by these."""
    return {word: word for word in [*list(KEYWORDS), *MARKS]}


def kind_of_whole(text):
    """The kind of what is a name or a number by all of its signs, else None."""
    if is_name(text):
        return NAME
    if text.isdigit() and len(text) <= MOST_FIGURES and (text[0] != "0" or text == "0"):
        return NUMBER
    return None


def quick_words(row, known):
    """The kinds and the texts of the words of a row, and its end, without their columns; None where they can't be told
    by parting it at its blanks and marks alone. Kinds that were found are noted in those known."""
    if not row.isascii() or not row.isprintable():
        return None
    texts = row.translate(PARTED).split()
    kinds = []
    for text in texts:
        kind = known.get(text)
        if kind is None:
            kind = kind_of_whole(text)
            if kind is None:
                return None
            known[text] = kind
        kinds.append(kind)
    return [*kinds, ROW_END], [*texts, ""]


class Words:
    """The words of one row, taken from the left; known are the kinds of words met in rows ahead."""

    def __init__(self, number, row, known):
        self.number = number
        self.row = row
        found = quick_words(row, known)
        if found is None:
            words = words_of(row)
            found = [word[0] for word in words], [word[1] for word in words]
        self.kinds, self.texts = found
        self.at = 0

    def ahead(self):
        """The kind of the next word."""
        return self.kinds[self.at]

    def take(self, *kinds):
        """The next word, which must be of one of the kinds."""
        at = self.at
        if self.kinds[at] not in kinds:
            # Only what is refused is asked for its column.
            raise NoText(self.number, words_of(self.row)[at][2])
        self.at = at + 1
        return self.texts[at]

    def take_if(self, kind):
        """Whether the next word is of the kind; it is taken then."""
        if self.kinds[self.at] != kind:
            return False
        self.at += 1
        return True
