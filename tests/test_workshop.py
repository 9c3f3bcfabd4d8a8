"""class Workshop: point 62."""

import inspect
import random
import unittest

from deepstands.charts import names_of
from deepstands.errors import (Beyond, Endless, NoBack, NoChart, NoHappening, NoLead, NoRun, NoText, NoTitle, Taken)
from deepstands.leads import change_wrong, led
from deepstands.runs import Run
from deepstands.steps import start, step
from deepstands.texts import printed, read_chart
from deepstands.workshop import Workshop

from drawn import Drawn
from plain import Wild

TEXT = [
    "-- a gate", "fact n 0 2 0", "on coin", "on push", "on loop", "",
    "one gate", "  into say begun n", "  leaf shut", "    go on coin do set n n + 1, say paid n to free",
    "    go on loop do raise loop", "  leaf free", "    go on push to shut", "    go after 2 do say late n to shut",
]
OTHER = ["fact m 0 9 5", "on coin", "one door", "  leaf shut", "    go on coin do say more m to wide", "  leaf wide",
         "    go after 9"]
NAMES = {"gate": "door", "free": "wide", "n": "m"}
METHODS = {
    "start": ["title"], "tell": ["title", "happening"], "tick": ["title"], "standing": ["title"], "said": ["title"],
    "edit": ["text", "names"], "stop": ["title"], "back": [], "text": [], "chart": [], "titles": [], "log": [],
}
NO_TITLES = (None, True, 0, "", "A", "ab1", "a b", "abcdefghi", "ab_", ("a",), ["a"], (), [], "\u00e4", "a\n", "-")


def all_of(shop):
    """All that a workshop tells of itself."""
    return (shop.text(), shop.chart(), shop.titles(), shop.log(),
            [(shop.standing(title), shop.said(title)) for title in shop.titles()])


class Refusing(unittest.TestCase):
    def refused(self, shop, error, fields, ask, *args, **more):
        """It is refused so, and changes nothing."""
        before = all_of(shop)
        with self.assertRaises(error) as caught:
            ask(*args, **more)
        for name, wanted in fields.items():
            self.assertEqual(getattr(caught.exception, name), wanted)
            self.assertIs(type(getattr(caught.exception, name)), type(wanted))
        self.assertEqual(all_of(shop), before)


class TestWorkshop(Refusing):
    def test_every_deed_and_its_log(self):
        shop = Workshop(TEXT)
        self.assertEqual(all_of(shop), (TEXT, read_chart(TEXT), [], [], []))
        self.assertEqual(shop.start("b"), [("begun", 0)])
        self.assertEqual(shop.start("abcdefgh"), [("begun", 0)])
        self.assertEqual(shop.tell("b", "coin"), [("paid", 1)])
        self.assertEqual(shop.tick("b"), [])
        self.assertEqual(shop.tell("b", "tick"), [("late", 1)])
        self.assertEqual(shop.tell("abcdefgh", "push"), [])
        self.assertEqual(shop.titles(), ["abcdefgh", "b"])
        self.assertEqual(shop.standing("b"), (("gate", "shut"), (1,), (), ()))
        self.assertEqual(shop.said("b"), [[("begun", 0)], [("paid", 1)], [], [("late", 1)]])
        self.assertEqual(shop.said("abcdefgh"), [[("begun", 0)], []])
        self.assertIsNone(shop.stop("abcdefgh"))
        self.assertIsNone(shop.edit(OTHER, names=NAMES))
        self.assertEqual(shop.log(), [("start", "b"), ("start", "abcdefgh"), ("tell", "b", "coin"), ("tick", "b"),
                                      ("tick", "b"), ("tell", "abcdefgh", "push"), ("stop", "abcdefgh"), ("edit", 7)])
        self.assertEqual(shop.titles(), ["b"])

    def test_a_text_that_is_refused(self):
        for text, row, column in (([], 1, 1), (["one r", " leaf x"], 2, 1), (["fact n"], 1, 7)):
            with self.assertRaises(NoText) as caught:
                Workshop(text)
            self.assertEqual((caught.exception.row, caught.exception.column), (row, column))
        with self.assertRaises(NoChart) as caught:
            Workshop(["leaf r"])
        self.assertEqual(caught.exception.wrong, ("root",))

    def test_titles(self):
        shop = Workshop(TEXT)
        for title in NO_TITLES:
            self.refused(shop, NoTitle, {"title": title}, shop.start, title)
            self.refused(shop, NoRun, {"title": title}, shop.tell, title, "zz")
            for ask in (shop.tick, shop.standing, shop.said, shop.stop):
                self.refused(shop, NoRun, {"title": title}, ask, title)
        shop.start("a")
        self.refused(shop, Taken, {"title": "a"}, shop.start, "a")
        self.refused(shop, NoRun, {"title": "b"}, shop.tell, "b", "coin")
        shop.stop("a")
        self.refused(shop, NoRun, {"title": "a"}, shop.stop, "a")
        self.assertEqual(shop.start("a"), [("begun", 0)])
        self.assertEqual(shop.said("a"), [[("begun", 0)]])

    def test_a_begin_that_is_refused(self):
        shop = Workshop(["fact n 0 1 0", "one r", "  leaf x", "    into set n 2"])
        self.refused(shop, Beyond, {"fact": "n", "stand": "x"}, shop.start, "a")
        # A title that is none, or is taken, is refused ahead of it.
        self.refused(shop, NoTitle, {"title": "A"}, shop.start, "A")
        shop = Workshop(["on h", "one r", "  into raise h", "  go on h do raise h", "  leaf x"])
        self.refused(shop, Endless, {}, shop.start, "a")
        shop.edit(["on h", "one r", "  leaf x"])
        shop.start("a")
        shop.edit(["on h", "one r", "  into raise h", "  go on h do raise h", "  leaf x"])
        self.refused(shop, Taken, {"title": "a"}, shop.start, "a")
        self.refused(shop, Endless, {}, shop.start, "b")
        self.refused(shop, Endless, {}, shop.tell, "a", "h")

    def test_steps_that_are_refused(self):
        shop = Workshop(TEXT)
        shop.start("a")
        for happening in (None, True, 0, "", "zz", "shut", ("on", "coin"), ("tick",), ["coin"]):
            self.refused(shop, NoHappening, {"what": happening}, shop.tell, "a", happening)
            self.refused(shop, NoRun, {"title": "b"}, shop.tell, "b", happening)
        self.refused(shop, Endless, {}, shop.tell, "a", "loop")
        for happening in ("coin", "push", "coin", "push"):
            shop.tell("a", happening)
        self.refused(shop, Beyond, {"fact": "n", "stand": "shut"}, shop.tell, "a", "coin")
        self.assertEqual(shop.tell("a", "tick"), [])

    def test_runs_do_not_touch_one_another(self):
        shop = Workshop(TEXT)
        shop.start("a")
        shop.tell("a", "coin")
        shop.start("b")
        self.assertEqual(shop.standing("b"), (("gate", "shut"), (0,), (), ()))
        shop.tell("b", "coin")
        shop.tick("b")
        self.assertEqual(shop.standing("a"), (("gate", "free"), (1,), (("free", 0),), ()))

    def test_what_was_handed_in_and_told_may_be_changed(self):
        text = list(TEXT)
        shop = Workshop(text)
        text.clear()
        self.assertEqual(shop.text(), TEXT)
        other, names = list(OTHER), dict(NAMES)
        shop.start("a").append("spoiled")
        shop.tell("a", "coin").append("spoiled")
        for told in (shop.text(), shop.titles(), shop.log(), shop.said("a"), shop.said("a")[0]):
            told.append("spoiled")
        self.assertEqual(shop.said("a"), [[("begun", 0)], [("paid", 1)]])
        shop.edit(other, names=names)
        kept = all_of(shop)
        other.clear()
        names.clear()
        shop.text().clear()
        self.assertEqual(all_of(shop), kept)
        self.assertEqual(shop.text(), OTHER)
        title = ["a"]
        with self.assertRaises(NoTitle) as caught:
            shop.start(title)
        title.append("b")
        self.assertEqual(caught.exception.title, ["a"])

    def test_arguments(self):
        for name, wanted in METHODS.items():
            told = inspect.signature(vars(Workshop)[name]).parameters
            self.assertEqual(list(told)[1:], wanted)
            for parameter in told.values():
                kind = parameter.KEYWORD_ONLY if parameter.name == "names" else parameter.POSITIONAL_OR_KEYWORD
                self.assertEqual(parameter.kind, kind)
        shop = Workshop(text=TEXT)
        shop.start(title="a")
        shop.tell(happening="coin", title="a")
        shop.tick(title="a")
        self.assertEqual(shop.standing(title="a")[0], ("gate", "free"))
        self.assertEqual(len(shop.said(title="a")), 3)
        shop.edit(text=TEXT, names=None)
        shop.stop(title="a")
        with self.assertRaises(TypeError):
            shop.edit(TEXT, {})


class TestEdit(Refusing):
    def test_runs_go_on_by_the_new_chart(self):
        shop = Workshop(TEXT)
        for title in ("b", "a"):
            shop.start(title)
        shop.tell("b", "coin")
        shop.tick("b")
        chart, standings = shop.chart(), [shop.standing(title) for title in shop.titles()]
        self.assertIsNone(shop.edit(OTHER, names=NAMES))
        self.assertEqual((shop.text(), shop.chart()), (OTHER, read_chart(OTHER)))
        self.assertEqual([shop.standing(title) for title in shop.titles()],
                         [led(chart, shop.chart(), standing, NAMES) for standing in standings])
        self.assertEqual(shop.standing("b"), (("door", "wide"), (1,), (("wide", 1),), ()))
        # Said over the edit; push is no happening any more.
        self.assertEqual(shop.tell("a", "coin"), [("more", 0)])
        self.refused(shop, NoHappening, {"what": "push"}, shop.tell, "b", "push")
        self.assertEqual(shop.said("a"), [[("begun", 0)], [("more", 0)]])
        self.assertEqual(shop.said("b"), [[("begun", 0)], [("paid", 1)], []])
        self.assertEqual(shop.start("c"), [])
        self.assertEqual(shop.standing("c"), (("door", "shut"), (5,), (), ()))
        self.assertEqual(shop.log()[-3:], [("edit", 7), ("tell", "a", "coin"), ("start", "c")])

    def test_without_names_and_without_runs(self):
        shop = Workshop(TEXT)
        shop.edit(OTHER)
        self.assertEqual((shop.text(), shop.log()), (OTHER, [("edit", 7)]))
        shop.edit(TEXT, names={})
        shop.start("a")
        shop.edit(["-- passed over", "", *TEXT, "   "])
        self.assertEqual(shop.log()[-1], ("edit", len(TEXT) + 3))
        self.assertEqual(shop.standing("a"), start(shop.chart())[0])

    def test_what_is_refused(self):
        shop = Workshop(TEXT)
        for title in ("c", "b", "a"):
            shop.start(title)
        shop.tell("b", "coin")
        self.refused(shop, NoText, {"row": 1, "column": 1}, shop.edit, [])
        self.refused(shop, NoText, {"row": 2, "column": 3}, shop.edit, ["one gate", "  zz"], names=NAMES)
        self.refused(shop, NoChart, {"wrong": ("root",)}, shop.edit, ["leaf gate"], names=NAMES)
        # The first by the order of titles that can't be led.
        self.refused(shop, NoLead, {"title": "a", "wrong": ("Gone", "gate")}, shop.edit, OTHER)
        self.refused(shop, NoLead, {"title": "b", "wrong": ("Gone", "free")}, shop.edit, OTHER, names={"gate": "door"})
        self.refused(shop, NoLead, {"title": "b", "wrong": ("Beyond", "m", None)}, shop.edit, ["fact m 0 0 0", *OTHER[1:]],
                     names=NAMES)
        self.refused(shop, NoLead, {"title": "a", "wrong": ("Moved", "gate")}, shop.edit,
                     ["one r", "  leaf shut", "  leaf gate", "  leaf free"])
        shop.stop("a")
        self.refused(shop, NoLead, {"title": "b", "wrong": ("Gone", "gate")}, shop.edit, OTHER)
        shop.stop("b")
        shop.stop("c")
        shop.edit(OTHER)

    def test_no_lead_tells_what_change_wrong_tells(self):
        for seed in range(60):
            drawn = Drawn(seed)
            other = Wild(drawn.by.randint(0, 10 ** 9)).chart()
            names = dict(zip(drawn.slow.plain.order, names_of(other)))
            shop = Workshop(printed(drawn.chart))
            shop.start("a")
            standing = shop.standing("a")
            wrong = change_wrong(drawn.chart, other, standing, names)
            if wrong is None:
                shop.edit(printed(other), names=names)
                self.assertEqual(shop.standing("a"), led(drawn.chart, other, standing, names))
            else:
                self.refused(shop, NoLead, {"title": "a", "wrong": wrong}, shop.edit, printed(other), names=names)


class TestBack(Refusing):
    def test_over_every_kind_of_deed(self):
        shop = Workshop(TEXT)
        deeds = [
            (shop.start, "a"), (shop.start, "b"), (shop.tell, "a", "coin"), (shop.tick, "a"), (shop.stop, "b"),
            (shop.start, "b"), (shop.tell, "b", "push"), (lambda: shop.edit(OTHER, names=NAMES),), (shop.tell, "b", "coin"),
            (shop.stop, "a"), (shop.tick, "b"), (lambda: shop.edit(OTHER + ["-- more"]),), (shop.start, "a"),
            (shop.tell, "a", "tick"),
        ]
        seen = []
        for deed, *args in deeds:
            seen.append(all_of(shop))
            deed(*args)
        while seen:
            self.assertIsNone(shop.back())
            self.assertEqual(all_of(shop), seen.pop())
        self.refused(shop, NoBack, {}, shop.back)
        self.refused(shop, NoBack, {}, shop.back)
        self.assertEqual(shop.start("a"), [("begun", 0)])

    def test_going_on_behind_it(self):
        shop = Workshop(TEXT)
        shop.start("a")
        shop.tell("a", "coin")
        shop.edit(OTHER, names=NAMES)
        shop.back()
        self.assertEqual(shop.tell("a", "push"), [])
        self.assertEqual(shop.log(), [("start", "a"), ("tell", "a", "coin"), ("tell", "a", "push")])
        shop.stop("a")
        shop.back()
        self.assertEqual(shop.tell("a", "coin"), [("paid", 2)])
        self.assertEqual(shop.said("a"), [[("begun", 0)], [("paid", 1)], [], [("paid", 2)]])

    def test_what_was_refused_is_not_taken_back(self):
        shop = Workshop(TEXT)
        shop.start("a")
        self.refused(shop, NoLead, {}, shop.edit, OTHER)
        self.refused(shop, NoHappening, {}, shop.tell, "a", "zz")
        shop.back()
        self.assertEqual(all_of(shop), (TEXT, read_chart(TEXT), [], [], []))

    def test_two_workshops_share_nothing(self):
        text = list(TEXT)
        one, other = Workshop(text), Workshop(text)
        one.start("a")
        one.tell("a", "coin")
        self.assertEqual(all_of(other), (TEXT, read_chart(TEXT), [], [], []))


class TestDrawn(unittest.TestCase):
    def test_beside_runs(self):
        """A workshop's runs tell what a Run of the chart tells, deeds drawn and taken back."""
        for seed in range(40):
            drawn = Drawn(seed)
            by = random.Random(seed)
            shop, runs, seen = Workshop(printed(drawn.chart)), {}, []
            for _ in range(40):
                title = by.choice("abc")
                pick = by.randint(0, 5)
                before = all_of(shop)
                if pick == 0 and seen:
                    shop.back()
                    self.assertEqual(all_of(shop), seen.pop()[0])
                    runs = {title: self.run_by(drawn.chart, shop.said(title), shop.log(), title) for title in shop.titles()}
                elif title not in runs:
                    runs[title] = Run(drawn.chart)
                    self.assertEqual(shop.start(title), runs[title].said()[0])
                    seen.append((before,))
                elif pick == 1:
                    shop.stop(title)
                    del runs[title]
                    seen.append((before,))
                else:
                    happening = by.choice(drawn.slow.happenings)
                    try:
                        told = runs[title].tell(happening)
                    except (Beyond, Endless) as error:
                        with self.assertRaises(error.__class__):
                            shop.tell(title, happening)
                        self.assertEqual(all_of(shop), before)
                    else:
                        self.assertEqual(shop.tell(title, happening), told)
                        seen.append((before,))
                for title, run in runs.items():
                    self.assertEqual((shop.standing(title), shop.said(title)), (run.standing(), run.said()))

    def run_by(self, chart, said, log, title):
        """The run that a log tells of, from where the title was begun last."""
        first = max(k for k, deed in enumerate(log) if deed == ("start", title))
        run = Run(chart)
        for deed in log[first + 1:]:
            if deed[1] == title:
                run.tell("tick" if deed[0] == "tick" else deed[2])
        self.assertEqual(run.said(), said)
        return run

    def test_edits_beside_led_and_step(self):
        for seed in range(30):
            drawn = Drawn(seed, least=2)
            shop = Workshop(printed(drawn.chart))
            shop.start("a")
            standing, said = start(drawn.chart)[0], [start(drawn.chart)[1]]
            for happening in drawn.row(8):
                try:
                    standing, heard = step(drawn.chart, standing, happening)
                except (Beyond, Endless):
                    continue
                shop.tell("a", happening)
                said.append(heard)
                shop.edit(printed(drawn.chart))
            self.assertEqual((shop.standing("a"), shop.said("a")), (standing, said))


if __name__ == "__main__":
    unittest.main()
