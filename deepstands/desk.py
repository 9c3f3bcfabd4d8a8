"""A desk: a workshop that is talked to in lines."""

from deepstands.errors import NoLine
from deepstands.plan import what_of
from deepstands.standings import last_stood
from deepstands.steps import fits
from deepstands.texts import printed
from deepstands.workshop import Workshop

# How many words the lines have that don't hold a text.
COUNTS = {
    "start": 2, "tell": 3, "tick": 2, "stop": 2, "back": 1, "titles": 1, "stood": 2, "worths": 2, "fits": 3, "chart": 1,
}
ASKED = ("titles", "stood", "worths", "fits", "chart")
EDIT = "edit "
ROW_END = " / "
OK = "ok"


def listed(words, between):
    """The words in one text."""
    return between.join(words) if words else "none"


def said_text(said):
    """What was said."""
    return listed([f"{name} {worth}" for name, worth in said], ", ")


class Desk:
    """A desk of its own, with a workshop of a text."""

    def __init__(self, text):
        self.shop = Workshop(text)

    def say(self, line):
        """The answer to a line."""
        if line.startswith(EDIT):
            self.shop.edit(line[len(EDIT):].split(ROW_END))
            return OK
        words = line.split(" ")
        if COUNTS.get(words[0]) != len(words):
            raise NoLine()
        return self.answer_asked(words) if words[0] in ASKED else self.answer_done(words)

    def answer_done(self, words):
        """The answer to a line by which something is done."""
        word = words[0]
        if word == "start":
            return said_text(self.shop.start(words[1]))
        if word == "tell":
            return said_text(self.shop.tell(words[1], words[2]))
        if word == "tick":
            return said_text(self.shop.tick(words[1]))
        if word == "stop":
            self.shop.stop(words[1])
        else:
            self.shop.back()
        return OK

    def answer_asked(self, words):
        """The answer to a line by which something is asked."""
        word = words[0]
        if word == "titles":
            return listed(self.shop.titles(), " ")
        if word == "chart":
            return ROW_END.join(printed(self.shop.chart()))
        chart = self.shop.chart()
        standing = self.shop.standing(words[1])
        if word == "fits":
            return listed([f"{name}.{k}" for name, k in fits(chart, standing, what_of(words[2]))], " ")
        if word == "worths":
            return listed([f"{fact[0]}={worth}" for fact, worth in zip(chart[0], standing[1])], " ")
        return listed(last_stood(self.shop.page.plan, standing[0]), " ")
