"""The words of a row of a text, and taking them one by one."""

from deepstands.errors import NoText
from deepstands.kinds import FIGURES, KEYWORDS, LETTERS, MOST_FIGURES, MOST_SIGNS

MARKS = "()+-<=,"
# The kinds of words; a keyword and a mark is a kind of its own.
NAME = "a name"
NUMBER = "a number"
NO_WORD = "no word"
ROW_END = "the row's end"


def end_of_run(row, at, signs, most):
    """Where a run of at most so many of the signs ends."""
    end = at
    while end < len(row) and end < at + most and row[end] in signs:
        end += 1
    return end


def end_of_word(row, at):
    """Where the word that begins at a place ends: at that very place where none begins there."""
    sign = row[at]
    if sign in MARKS:
        return at + 1
    # A run that went on to here was as long as it may be, so this sign is one too many.
    if at > 0 and row[at - 1] in LETTERS + FIGURES:
        return at
    if sign == "0":
        return at + 1
    if sign in FIGURES:
        return end_of_run(row, at, FIGURES, MOST_FIGURES)
    if sign in LETTERS:
        return end_of_run(row, at, LETTERS + FIGURES, MOST_SIGNS)
    return at


def kind_of(word):
    """The kind of a word; of no signs there is none."""
    if word == "":
        return NO_WORD
    if word in KEYWORDS or word in MARKS:
        return word
    return NUMBER if word[0] in FIGURES else NAME


def blanks_of(row):
    """How many blanks stand ahead of the first word."""
    return len(row) - len(row.lstrip(" "))


def is_passed(row):
    """Whether a row is passed over."""
    bare = row.lstrip(" ")
    return bare == "" or bare.startswith("--")


def words_of(row):
    """The words of a row, tuples (kind, word, column), and its end; the first sign that begins no word is the last."""
    words = []
    at = blanks_of(row)
    while at < len(row):
        end = end_of_word(row, at)
        words.append((kind_of(row[at:end]), row[at:end], at + 1))
        if end == at:
            return words
        at = end + blanks_of(row[end:])
    words.append((ROW_END, "", len(row.rstrip(" ")) + 1))
    return words


class Words:
    """The words of one row, taken from the left."""

    def __init__(self, number, row):
        self.number = number
        self.words = words_of(row)
        self.at = 0

    def ahead(self):
        """The kind of the next word."""
        return self.words[self.at][0]

    def take(self, *kinds):
        """The next word, which must be of one of the kinds."""
        kind, word, column = self.words[self.at]
        if kind not in kinds:
            raise NoText(self.number, column)
        self.at += 1
        return word

    def take_if(self, kind):
        """Whether the next word is of the kind; it is taken then."""
        if self.ahead() != kind:
            return False
        self.at += 1
        return True
