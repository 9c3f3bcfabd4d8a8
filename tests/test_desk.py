"""class Desk: point 63."""

import inspect
import unittest

from deepstands.desk import Desk
from deepstands.errors import (Beyond, Endless, NoBack, NoChart, NoHappening, NoLead, NoLine, NoRun, NoText, NoTitle,
                               Taken)
from deepstands.texts import printed, read_chart

TEXT = [
    "fact n -5 2 0", "fact m 0 9 3", "on coin", "on push", "on loop",
    "all r", "  one gate", "    into say begun n, say m m", "    leaf shut",
    "      go on coin do set n n + 1, say paid n to free", "      go on loop do raise loop", "      go on push do set n n - 1",
    "      go on push if n < 0", "    leaf free", "      go on push to shut", "      go after 2 do say late n to shut",
    "  leaf bell", "    go on push do say rung 0 - m",
]
BEGUN = "begun 0, m 3"
QUESTIONS = ("titles", "chart", "stood a", "worths a", "fits a coin", "fits a push", "fits a tick")


class Refusing(unittest.TestCase):
    def refused(self, desk, error, line, **fields):
        """It is refused so, and changes nothing."""
        before = self.answers(desk)
        with self.assertRaises(error) as caught:
            desk.say(line)
        for name, wanted in fields.items():
            self.assertEqual(getattr(caught.exception, name), wanted, line)
        self.assertEqual(self.answers(desk), before)

    def answers(self, desk):
        told = []
        for line in QUESTIONS:
            try:
                told.append(desk.say(line))
            except NoRun as error:
                told.append(error.title)
        return told


class TestDesk(Refusing):
    def says(self, desk, *pairs):
        for line, wanted in pairs:
            told = desk.say(line)
            self.assertEqual(told, wanted, line)
            self.assertIsInstance(told, str)

    def test_every_line(self):
        desk = Desk(TEXT)
        self.says(desk, ("titles", "none"), ("start b", BEGUN), ("start ab", BEGUN), ("titles", "ab b"),
                  ("stood b", "shut bell"), ("worths b", "n=0 m=3"), ("fits b coin", "shut.0"),
                  ("fits b push", "shut.2 bell.0"), ("fits b tick", "none"), ("fits b loop", "shut.1"),
                  ("tell b coin", "paid 1"), ("stood b", "free bell"), ("fits b coin", "none"), ("fits b loop", "none"),
                  ("tick b", "none"), ("fits b tick", "none"), ("tell b tick", "late 1"), ("stood b", "shut bell"),
                  ("worths b", "n=1 m=3"), ("tell b push", "rung -3"), ("tell b push", "rung -3"),
                  ("worths b", "n=-1 m=3"), ("fits b push", "shut.2 shut.3 bell.0"),
                  ("stood ab", "shut bell"), ("stop ab", "ok"), ("titles", "b"), ("back", "ok"), ("titles", "ab b"),
                  ("chart", " / ".join(TEXT)))

    def test_what_was_said_by_commas(self):
        desk = Desk(["fact n -9 9 -7", "on h", "one r", "  leaf x", "    go on h do say a n, say b 0, say a 999999999"])
        self.says(desk, ("start x", "none"), ("tell x h", "a -7, b 0, a 999999999"), ("worths x", "n=-7"),
                  ("tick x", "none"), ("stood x", "x"))

    def test_nothing_there_is_none(self):
        desk = Desk(["one r", "  leaf x"])
        self.says(desk, ("titles", "none"), ("start x", "none"), ("worths x", "none"), ("fits x tick", "none"),
                  ("chart", "one r /   leaf x"))

    def test_stood_in_order_and_innermost(self):
        desk = Desk(["all r", "  one p", "    all q", "      leaf x", "      one k", "        back kb", "        end y",
                     "        leaf z", "  leaf w"])
        self.says(desk, ("start a", "none"), ("stood a", "x y w"))

    def test_edit_with_blanks_of_rows_their_own(self):
        desk = Desk(["one r", "  leaf x"])
        self.says(desk, ("start a", "none"),
                  ("edit -- x /  / fact n -9  9 - 5 / one r /   leaf x  /   all more /     leaf y", "ok"),
                  ("chart", "fact n -9 9 -5 / one r /   leaf x /   all more /     leaf y"), ("worths a", "n=-5"),
                  ("edit one r /   leaf x", "ok"), ("chart", "one r /   leaf x"), ("back", "ok"), ("worths a", "n=-5"),
                  ("back", "ok"), ("worths a", "none"), ("back", "ok"), ("titles", "none"))
        # A slash is parted by its blanks alone.
        self.refused(desk, NoText, "edit one r/  leaf x", row=1, column=6)
        self.refused(desk, NoText, "edit one r /  leaf x", row=2, column=1)
        self.refused(desk, NoText, "edit ", row=2, column=1)
        self.refused(desk, NoText, "edit  ", row=2, column=1)
        self.refused(desk, NoText, "edit  one r /   leaf x", row=1, column=1)
        self.says(desk, ("edit one r /   leaf x / ", "ok"))

    def test_lines_that_are_none(self):
        desk = Desk(TEXT)
        desk.say("start a")
        for line in ("", " ", "  ", "zz", "start", "start a b", " start a", "start  a", "start a ", "tell", "tell a",
                     "tell a coin x", "tell a  coin", "tell  a coin", "tell a coin ", " tell a coin", "tick", "tick a a",
                     "tick a ", " tick a", "stop", "stop a b", "back ", " back", "back a", "edit", " edit", "Edit x", "edits x",
                     "titles ", " titles", "titles a", "stood", "stood a a", "worths", "worths a ", "fits", "fits a",
                     "fits a coin ", "fits a coin coin", "chart ", "chart a", "standing a", "said a", "text", "log", "say",
                     "Start a", "none", "back\n", "\tback", "tick\ta"):
            self.refused(desk, NoLine, line)

    def test_an_empty_word_counts_as_one(self):
        desk = Desk(TEXT)
        desk.say("start a")
        self.refused(desk, NoTitle, "start ", title="")
        self.refused(desk, NoRun, "tick ", title="")
        self.refused(desk, NoRun, "stop ", title="")
        self.refused(desk, NoRun, "stood ", title="")
        self.refused(desk, NoRun, "worths ", title="")
        self.refused(desk, NoRun, "tell  coin", title="")
        self.refused(desk, NoRun, "fits  coin", title="")
        self.refused(desk, NoHappening, "tell a ", what="")
        self.refused(desk, NoHappening, "fits a ", what=("on", ""))

    def test_refused_as_the_workshop(self):
        desk = Desk(TEXT)
        self.refused(desk, NoBack, "back")
        desk.say("start a")
        self.refused(desk, Taken, "start a", title="a")
        for title in ("A", "a1", "abcdefghi", "r"):
            if title != "r":
                self.refused(desk, NoTitle, f"start {title}", title=title)
            for line in ("tick {}", "tell {} zz", "stop {}", "stood {}", "worths {}", "fits {} zz", "tell {} coin"):
                self.refused(desk, NoRun, line.format(title), title=title)
        self.refused(desk, NoHappening, "tell a zz", what="zz")
        self.refused(desk, NoHappening, "tell a gate", what="gate")
        self.refused(desk, NoHappening, "fits a zz", what=("on", "zz"))
        self.refused(desk, NoHappening, "fits a gate", what=("on", "gate"))
        self.refused(desk, NoHappening, "fits a on", what=("on", "on"))
        self.refused(desk, Endless, "tell a loop")
        desk.say("tell a coin")
        desk.say("tell a push")
        desk.say("tell a coin")
        desk.say("tell a push")
        self.refused(desk, Beyond, "tell a coin", fact="n", stand="shut")
        self.refused(desk, NoLead, "edit one r /   leaf x", title="a", wrong=("Gone", "gate"))
        self.refused(desk, NoChart, "edit leaf r", wrong=("root",))
        self.refused(desk, NoText, "edit zz", row=1, column=1)

    def test_texts_that_are_refused(self):
        with self.assertRaises(NoText):
            Desk([])
        with self.assertRaises(NoChart):
            Desk(["leaf r"])
        desk = Desk(["fact n 0 0 0", "one r", "  leaf x", "    into set n 1"])
        self.refused(desk, Beyond, "start a", fact="n", stand="x")

    def test_two_desks_share_nothing(self):
        text = list(TEXT)
        one, other = Desk(text), Desk(text)
        text.clear()
        one.say("start a")
        one.say("tell a coin")
        one.say("edit " + " / ".join(TEXT + ["-- more"]))
        self.assertEqual(other.say("titles"), "none")
        self.assertEqual(other.say("start a"), BEGUN)
        self.assertEqual(other.say("worths a"), "n=0 m=3")
        self.assertEqual(one.say("worths a"), "n=1 m=3")

    def test_a_chart_that_is_printed_is_edited_in(self):
        desk = Desk(TEXT)
        desk.say("start a")
        desk.say("tell a coin")
        before = self.answers(desk)
        self.assertEqual(desk.say("edit " + desk.say("chart")), "ok")
        self.assertEqual(self.answers(desk), before)
        self.assertEqual(before[1].split(" / "), printed(read_chart(TEXT)))

    def test_arguments(self):
        self.assertEqual(list(inspect.signature(Desk).parameters), ["text"])
        self.assertEqual(list(inspect.signature(vars(Desk)["say"]).parameters), ["self", "line"])
        self.assertEqual(Desk(text=TEXT).say(line="titles"), "none")


if __name__ == "__main__":
    unittest.main()
