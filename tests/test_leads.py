"""led, change_wrong: points 60 and 61."""

import random
import unittest

from deepstands.charts import chart_wrong
from deepstands.errors import Apart, Beyond, Gone, Moved, NoChart, NoStanding
from deepstands.leads import change_wrong, led
from deepstands.reach import reach
from deepstands.steps import standing_wrong
from deepstands.texts import read_chart

from helpers import chart, stand
from plain import Plain, Wild
from slow import Leading, renamed
from test_looking import at, places, replaced

OLD = read_chart([
    "fact n 0 9 1", "fact m -3 3 0",
    "all r",
    "  one p",
    "    leaf x",
    "      go after 5",
    "    leaf y",
    "    back pb",
    "    deep pd",
    "  one q",
    "    all s",
    "      leaf u",
    "        go after 2",
    "      one v",
    "        leaf v1",
    "        leaf v2",
    "    leaf t",
    "    deep qd",
])
STOOD = ("r", "p", "x", "q", "s", "u", "v", "v1")
BEGIN = (STOOD, (1, 0), (("x", 0), ("u", 0)), ())
LATER = (STOOD, (7, -2), (("x", 6), ("u", 2)),
         (("pb", ("y",)), ("pd", ("x",)), ("qd", ("s", "u", "v", "v2"))))
IN_T = (("r", "p", "y", "q", "t"), (1, 0), (), ())
# What is no name anywhere.
NONE = {"zz": "yy", "yy": "r", "x9": "zz"}


def rows(*more):
    """A chart of an all with these rows in it."""
    return read_chart(["fact n 0 9 1", "all r", *more])


class Refusing(unittest.TestCase):
    def refused(self, error, fields, other, standing, names, chart=OLD):
        """led refuses it so, and change_wrong tells the same."""
        with self.assertRaises(error) as caught:
            led(chart, other, standing, names)
        told = caught.exception
        self.assertEqual({name: getattr(told, name) for name in fields}, fields)
        self.assertEqual(change_wrong(chart, other, standing, names), (error.__name__, *fields.values()))

    def led_to(self, wanted, other, standing, names, chart=OLD):
        kept = dict(names)
        told = led(chart, other, standing, names)
        self.assertEqual(told, wanted)
        self.assertIsNone(standing_wrong(other, told))
        self.assertIsNone(change_wrong(chart, other, standing, names))
        self.assertEqual(names, kept)


class TestLed(Refusing):
    def test_to_the_same_chart(self):
        for standing in (BEGIN, LATER, IN_T):
            self.led_to(standing, OLD, standing, {})
            self.led_to(standing, OLD, standing, NONE)

    def test_to_other_names_and_back(self):
        order = Plain(OLD).order
        names = {name: f"q{k}" for k, name in enumerate(order)} | {"n": "n1", "m": "m1"}
        other = renamed(OLD, names)
        self.assertIsNone(chart_wrong(other))
        back = {new: old for old, new in names.items()}
        for standing in (BEGIN, LATER, IN_T):
            self.led_to(renamed(standing, names), other, standing, names)
            self.led_to(standing, OLD, renamed(standing, names), back, chart=other)

    def test_stands_in_another_place(self):
        """What is new in an all is entered, a one in which none is stood has its first."""
        other = rows("  one w", "    leaf w1", "    leaf w2", "  one p", "    leaf y", "    one k", "      leaf x",
                     "  one q", "    leaf t", "    all s", "      leaf u", "      one v", "        leaf v2",
                     "        leaf v1", "      leaf more")
        self.led_to((("r", "w", "w1", "p", "k", "x", "q", "s", "u", "v", "v1", "more"), (1,), (), ()), other, BEGIN, {})
        # An image that has stands in it gets its first.
        self.led_to((("r", "w", "w1", "p", "y", "q", "s", "u", "v", "v1", "more"), (1,), (), ()), other, BEGIN,
                    {"x": "p"})

    def test_several_old_names(self):
        """Of u and v1 the images are in one stand; the first old fact and the first old age count."""
        other = read_chart(["fact k 0 9 5", "all r", "  one p", "    leaf x", "  one q", "    leaf s", "      go after 9"])
        names = {"u": "s", "v": "q", "v1": "s", "n": "k", "m": "k"}
        self.refused(Apart, {"one": "u", "other": "v1"}, other, LATER, names)
        # s itself has no age, so that of u doesn't count.
        shorter = read_chart(["fact n 0 9 1", "all r", "  one p", "    leaf x", "  one q", "    one s", "      leaf u",
                              "        go after 9"])
        standing = (("r", "p", "x", "q", "s", "u"), (3,), (("u", 4),), ())
        self.led_to((("r", "p", "x", "q", "s"), (3,), (("s", 0),), ()), other, standing,
                    {"u": "s", "n": "k"}, chart=shorter)
        self.led_to((("r", "p", "x", "q", "s"), (3,), (("s", 4),), ()), other, standing,
                    {"u": "s", "s": "q", "n": "k"}, chart=shorter)
        self.led_to((("r", "p", "x", "q", "s"), (5,), (("s", 4),), ()), other, standing,
                    {"u": "s", "s": "q"}, chart=shorter)

    def test_worths(self):
        other = read_chart(["fact a -9 9 3", "fact n -9 9 4", "fact m -9 9 5"] + ["all r", "  leaf x"])
        standing = (("r", "x"), (7, -2), (), ())
        old = read_chart(["fact n 0 9 1", "fact m -3 3 0", "all r", "  leaf x"])
        for names, worths in (({}, (3, 7, -2)), ({"n": "a"}, (7, 4, -2)), ({"n": "m"}, (3, 4, 7)), ({"m": "n"}, (3, 7, 5)),
                              ({"n": "m", "m": "n"}, (3, -2, 7)), ({"n": "zz"}, (3, 4, -2)), ({"n": "a", "m": "a"}, (7, 4, 5)),
                              ({"a": "n"}, (3, 7, -2)), ({"n": "x"}, (3, 4, -2))):
            self.led_to((("r", "x"), worths, (), ()), other, standing, names, chart=old)

    def test_ages(self):
        old = rows("  leaf x", "    go after 50", "  leaf y")
        standing = (("r", "x", "y"), (1,), (("x", 40),), ())
        for n, age in ((99, 40), (40, 40), (39, 40), (38, 39), (1, 2)):
            other = rows("  leaf x", f"    go after {n}", "  leaf y", "    go after 7")
            self.led_to((("r", "x", "y"), (1,), (("x", age), ("y", 0)), ()), other, standing, {}, chart=old)
        self.led_to((("r", "x", "y"), (1,), (("x", 0), ("y", 8)), ()), other, standing, {"x": "y", "y": "x"}, chart=old)
        self.led_to((("r", "x", "y"), (1,), (), ()), rows("  leaf x", "  leaf y"), standing, {}, chart=old)

    def test_kept(self):
        stood, worths, ages, kept = LATER

        def keeps(wanted, names, other=OLD):
            self.led_to((stood, worths, ages, wanted), other, LATER, names)

        # Only the markers have other names: the first old one that keeps something counts, the images must fit.
        keeps(kept[1:], {"pb": "zz"})
        keeps((("pb", ("y",)), kept[2]), {"pd": "zz"})
        keeps((("pb", ("x",)), ("pd", ("y",)), kept[2]), {"pb": "pd", "pd": "pb"})
        keeps((("pd", ("y",)), kept[2]), {"pb": "pd"})
        keeps(kept[:2], {"qd": "pd"})
        keeps((kept[0],), {"qd": "pb", "pd": "qd"})
        self.led_to((stood, worths, ages, (("pb", ("x",)),)), OLD, (stood, worths, ages, kept[1:2]), {"pd": "pb"})

    def test_what_is_kept_is_put_in_order(self):
        other = read_chart(["fact n 0 9 1", "fact m -3 3 0", "all r", "  one p", "    leaf x", "      go after 5",
                            "    leaf y", "    back pb", "    deep pd", "  one q", "    deep qd", "    all s", "      one v",
                            "        leaf v2", "        leaf v1", "      leaf u", "        go after 2", "    leaf t"])
        wanted = (("pb", ("y",)), ("pd", ("x",)), ("qd", ("s", "v", "v2", "u")))
        self.led_to((("r", "p", "x", "q", "s", "v", "v1", "u"), (7, -2), (("x", 6), ("u", 2)), wanted), other, LATER, {})
        # v2 is none there: what was kept can't be kept.
        fewer = read_chart(["fact n 0 9 1", "fact m -3 3 0", "all r", "  one p", "    leaf x", "    leaf y", "    back pb",
                            "  one q", "    deep qd", "    all s", "      leaf u", "      one v", "        leaf v1", "    leaf t"])
        self.led_to((STOOD, (7, -2), (), (("pb", ("y",)),)), fewer, LATER, {})


class TestRefused(Refusing):
    def test_gone(self):
        other = rows("  one p", "    leaf x", "    back y", "  one q", "    leaf t")
        self.refused(Gone, {"name": "s"}, other, LATER, {})
        self.refused(Gone, {"name": "y"}, other, IN_T, {})
        self.refused(Gone, {"name": "p"}, other, LATER, {"p": "zz", "s": "zz"})
        self.refused(Gone, {"name": "r"}, other, LATER, {"r": "n"})
        self.refused(Gone, {"name": "x"}, other, LATER, {"x": "y"})
        # The fields are names of the first chart.
        self.refused(Gone, {"name": "u"}, OLD, BEGIN, {"u": "pb", "v": "qd"})

    def test_apart(self):
        self.refused(Apart, {"one": "x", "other": "u"}, OLD, BEGIN, {"x": "u"})
        self.refused(Apart, {"one": "u", "other": "v1"}, OLD, BEGIN, {"v1": "t"})
        self.refused(Apart, {"one": "x", "other": "u"}, OLD, BEGIN, {"x": "s"})
        self.refused(Apart, {"one": "x", "other": "v1"}, OLD, BEGIN, {"x": "v", "v": "x"})
        self.refused(Apart, {"one": "x", "other": "u"}, OLD, BEGIN, {"x": "r"})
        self.refused(Apart, {"one": "x", "other": "u"}, OLD, BEGIN, {"x": "t", "v1": "y"})
        flat = rows("  one p", "    leaf x", "    leaf u", "    leaf v1", "    leaf q", "    leaf s", "    leaf v")
        self.refused(Apart, {"one": "x", "other": "u"}, flat, BEGIN, {})
        # Gone is ahead of it.
        self.refused(Gone, {"name": "v"}, OLD, BEGIN, {"x": "u", "v": "zz"})

    def test_moved(self):
        self.refused(Moved, {"name": "s"}, OLD, BEGIN, {"s": "t"})
        self.refused(Moved, {"name": "q"}, OLD, BEGIN, {"s": "y", "q": "v2"})
        self.refused(Apart, {"one": "u", "other": "v1"}, OLD, BEGIN, {"s": "t", "u": "v1"})
        out = rows("  leaf x", "  leaf u", "  leaf v1", "  one k", "    leaf k1", "    leaf p", "  leaf q", "  leaf s", "  leaf v")
        self.refused(Moved, {"name": "p"}, out, BEGIN, {})
        self.led_to((("r", "x", "u", "v1", "k", "k1", "q", "s", "v"), (1,), (), ()), out, BEGIN, {"p": "k1"})

    def test_beyond(self):
        other = read_chart(["fact k 4 9 5", "fact m -1 1 0", "fact n 0 6 1", "all r", "  leaf x"])
        standing = (("r", "x"), (7, -2), (), ())
        old = read_chart(["fact n 0 9 1", "fact m -3 3 0", "all r", "  leaf x"])
        self.refused(Beyond, {"fact": "m", "stand": None}, other, standing, {}, chart=old)
        self.refused(Beyond, {"fact": "n", "stand": None}, other, standing, {"m": "zz"}, chart=old)
        self.refused(Beyond, {"fact": "k", "stand": None}, other, standing, {"m": "k"}, chart=old)
        self.refused(Beyond, {"fact": "m", "stand": None}, other, standing, {"n": "m", "m": "zz"}, chart=old)
        self.led_to((("r", "x"), (7, 0, 1), (), ()), other, standing, {"n": "k", "m": "zz"}, chart=old)
        self.led_to((("r", "x"), (7, 0, 1), (), ()), other, standing, {"n": "k", "m": "k"}, chart=old)
        # Gone, Apart and Moved are ahead of it.
        self.refused(Gone, {"name": "x"}, other, standing, {"x": "zz"}, chart=old)

    def test_the_order(self):
        good, bad = BEGIN, (("r",), (), (), ())
        for ask in (led, change_wrong):
            for args, wrong in (((None, None, bad, {}), ("chart",)), ((OLD, chart(stand("r")), bad, {}), ("root",)),
                                ((chart(stand("r")), None, good, {}), ("root",))):
                with self.assertRaises(NoChart) as caught:
                    ask(*args)
                self.assertEqual(caught.exception.wrong, wrong)
            for standing, wrong in ((bad, ("stood",)), (None, ("form",)), ((STOOD, (1, True), (), ()), ("worths",)),
                                    ((STOOD, (1, 0), (), ()), ("ages",))):
                with self.assertRaises(NoStanding) as caught:
                    ask(OLD, rows("  leaf zz"), standing, {})
                self.assertEqual(caught.exception.wrong, wrong)
            # It must be one of the first chart.
            with self.assertRaises(NoStanding):
                ask(rows("  leaf x"), OLD, BEGIN, {})

    def test_arguments(self):
        self.assertEqual(led(names={}, standing=BEGIN, other=OLD, chart=OLD), BEGIN)
        self.assertEqual(change_wrong(names={"x": "zz"}, standing=BEGIN, other=OLD, chart=OLD), ("Gone", "x"))


def shuffled(by, stand):
    inner = [shuffled(by, x) for x in stand[2]]
    if by.randint(0, 2) == 0:
        by.shuffle(inner)
    return stand[:2] + (tuple(inner),) + stand[3:]


def changed(by, chart):
    """The chart with some parts in the places of others, and perhaps in another order."""
    for _ in range(by.randint(0, 3)):
        for _ in range(60):
            where = places(chart)
            part = by.choice([at(chart, by.choice(where)), "leaf", "end", "one", "all", "back", "deep", 0, 1, 2, 3, ()])
            other = replaced(chart, by.choice(where), part)
            if chart_wrong(other) is None and other != chart:
                chart = other
                break
    return (chart[0], chart[1], shuffled(by, chart[2])) if by.randint(0, 1) else chart


class TestDrawn(unittest.TestCase):
    def each(self, many):
        for seed in range(many):
            by = random.Random(seed)
            chart = Wild(by.randint(0, 10 ** 9)).chart()
            other = Wild(by.randint(0, 10 ** 9)).chart() if by.randint(0, 4) == 0 else changed(by, chart)
            yield by, chart, other

    def some_names(self, by, chart, other):
        olds = Plain(chart).order + [fact[0] for fact in chart[0]] + ["yy"]
        news = Plain(other).order + [fact[0] for fact in other[0]] + ["zz"]
        return {by.choice(olds): by.choice(news) for _ in range(by.choice([0, 0, 1, 2, 3]))}

    def told(self, chart, other, standing, names):
        try:
            return ("led", led(chart, other, standing, names))
        except (Gone, Moved) as error:
            return (error.__class__.__name__, error.name)
        except Apart as error:
            return ("Apart", error.one, error.other)
        except Beyond as error:
            return ("Beyond", error.fact, error.stand)

    def test_led(self):
        """led tells what slow.py tells."""
        seen = {}
        for by, chart, other in self.each(300):
            names = self.some_names(by, chart, other)
            for _ in range(4):
                standing = Plain(chart).some_standing(by)
                told = self.told(chart, other, standing, names)
                self.assertEqual(told, Leading(chart, other, standing, names).outcome())
                self.assertEqual(change_wrong(chart, other, standing, names), None if told[0] == "led" else told)
                if told[0] == "led":
                    self.assertIsNone(standing_wrong(other, told[1]))
                seen[told[0]] = seen.get(told[0], 0) + 1
        for word in ("led", "Gone", "Apart", "Moved", "Beyond"):
            self.assertGreater(seen.get(word, 0), 5, seen)

    def test_by_two_dicts_and_by_both_at_once(self):
        """From chart to chart by new names, and back by others: point 61."""
        for by, chart, _ in self.each(60):
            plain = Plain(chart)
            names = plain.order + [fact[0] for fact in chart[0]]
            there = {name: f"q{k}" for k, name in enumerate(names)}
            further = {f"q{k}": f"z{k}" for k in range(len(names))}
            between = (renamed(chart[0], there), chart[1], renamed(chart[2], there))
            last = (renamed(between[0], further), chart[1], renamed(between[2], further))
            if chart_wrong(between) is not None:
                continue
            both = {name: further[there[name]] for name in names}
            standing = plain.some_standing(by)
            self.assertEqual(led(between, last, led(chart, between, standing, there), further),
                             led(chart, last, standing, both))
            self.assertEqual(led(last, chart, led(chart, last, standing, both), {new: old for old, new in both.items()}),
                             standing)

    def test_all_that_is_come_to_stays(self):
        told = reach(OLD)[0]
        self.assertEqual([led(OLD, OLD, standing, {}) for standing in told], told)


if __name__ == "__main__":
    unittest.main()
