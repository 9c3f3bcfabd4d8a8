"""class Run: point 17; class Coded is asked the same (point 18)."""

import textwrap
import unittest

from deepstands.code import Coded, code
from deepstands.errors import Beyond, Endless, NoBack, NoChart, NoHappening
from deepstands.runs import Run
from deepstands.steps import start
from deepstands.texts import read_chart

TEXT = textwrap.dedent("""
    fact n 0 3 0
    on h
    on k
    on l
    one r
      into say begun n
      leaf x
        go on h do set n n + 1, say x n to y
        go on l do raise l
        go after 2 do say old n
      leaf y
        go on h do say y n to x
        go on k do set n 9
""").strip("\n").split("\n")
CHART = read_chart(TEXT)


def coded(chart):
    return Coded(code(chart))


class TestRuns(unittest.TestCase):
    """Each test is made for a Run and for a Coded."""

    def each(self):
        for make in (Run, coded):
            with self.subTest(make=make):
                yield make

    def refused(self, error, fields, ask, *args):
        with self.assertRaises(error) as caught:
            ask(*args)
        for field, wanted in fields.items():
            told = getattr(caught.exception, field)
            self.assertEqual(told, wanted)
            self.assertIs(type(told), type(wanted))

    def test_the_begin(self):
        for make in self.each():
            run = make(CHART)
            self.assertEqual(run.standing(), (("r", "x"), (0,), (("x", 0),), ()))
            self.assertEqual(run.said(), [[("begun", 0)]])
            self.assertEqual(len(run), 0)
            self.refused(NoBack, {}, run.back)

    def test_telling(self):
        for make in self.each():
            run = make(CHART)
            self.assertEqual(run.tell("h"), [("x", 1)])
            self.assertEqual(run.standing(), (("r", "y"), (1,), (), ()))
            self.assertEqual(run.tell("l"), [])
            self.assertEqual(run.tell("h"), [("y", 1)])
            self.assertEqual(run.tell("tick"), [])
            self.assertEqual(run.tell("tick"), [("old", 1)])
            self.assertEqual(run.standing(), (("r", "x"), (1,), (("x", 2),), ()))
            self.assertEqual(run.said(), [[("begun", 0)], [("x", 1)], [], [("y", 1)], [], [("old", 1)]])
            self.assertEqual(len(run), 5)

    def test_refusals_leave_all_as_it_was(self):
        for make in self.each():
            run = make(CHART)
            run.tell("h")
            before = (run.standing(), run.said(), len(run))
            self.refused(Beyond, {"fact": "n", "stand": "y"}, run.tell, "k")
            for thing in (None, True, 0, "", "zz", "x", "n", "r", ("on", "h"), ("tick",), ["h"], [], (), ("h",)):
                self.refused(NoHappening, {"what": thing}, run.tell, thing)
            self.assertEqual((run.standing(), run.said(), len(run)), before)
            run.tell("h")
            self.refused(Endless, {}, run.tell, "l")
            self.assertEqual((run.standing()[0], len(run)), (("r", "x"), 2))
            self.assertEqual(run.tell("h"), [("x", 2)])

    def test_back(self):
        for make in self.each():
            run = make(CHART)
            seen = []
            for happening in ("h", "tick", "h", "tick", "h", "h"):
                seen.append((run.standing(), run.said(), len(run)))
                run.tell(happening)
            while seen:
                self.assertIsNone(run.back())
                self.assertEqual((run.standing(), run.said(), len(run)), seen.pop())
            self.refused(NoBack, {}, run.back)
            self.refused(NoBack, {}, run.back)
            self.assertEqual(run.tell("h"), [("x", 1)])
            self.assertEqual(run.said(), [[("begun", 0)], [("x", 1)]])

    def test_copies_go_on_by_themselves(self):
        for make in self.each():
            run = make(CHART)
            run.tell("h")
            twin = run.copy()
            self.assertIsInstance(twin, run.__class__)
            self.assertEqual((twin.standing(), twin.said(), len(twin)), (run.standing(), run.said(), 1))
            run.tell("h")
            self.assertEqual((twin.standing()[0], len(twin), len(twin.said())), (("r", "y"), 1, 2))
            twin.back()
            self.refused(NoBack, {}, twin.back)
            self.assertEqual((run.standing()[0], len(run)), (("r", "x"), 2))
            self.assertEqual(twin.copy().said(), [[("begun", 0)]])
            run.back()
            run.back()
            self.refused(NoBack, {}, run.back)

    def test_equal_by_other_ways(self):
        for make in self.each():
            run, other = make(CHART), make(CHART)
            self.assertTrue(run == other)
            self.assertFalse(run != other)
            run.tell("h")
            self.assertFalse(run == other)
            self.assertTrue(run != other)
            other.tell("tick")
            self.assertFalse(run == other)
            other.tell("h")
            self.assertTrue(run == other)
            self.assertNotEqual(len(run), len(other))
            self.assertTrue(run == run.copy())
            other.back()
            other.back()
            self.assertTrue(other == make(read_chart(TEXT)))

    def test_unequal_to_anything_else(self):
        for make in self.each():
            run = make(CHART)
            for thing in (None, True, 0, "", (), [], CHART, run.standing(), code(CHART), Run, object()):
                self.assertFalse(run == thing)
                self.assertTrue(run != thing)
                self.assertFalse(thing == run)
        self.assertFalse(Run(CHART) == coded(CHART))
        self.assertFalse(coded(CHART) == Run(CHART))
        self.assertTrue(Run(CHART) != coded(CHART))

    def test_unequal_by_charts(self):
        rows = {
            "another happening": TEXT[:4] + ["on o"] + TEXT[4:],
            "happenings in another order": TEXT[:1] + [TEXT[2], TEXT[1]] + TEXT[3:],
            "another span": ["fact n 0 4 0"] + TEXT[1:],
            "another guard": [row.replace("do set n 9", "if yes and yes do set n 9") for row in TEXT],
            "another deed": [row.replace("set n 9", "set n 8") for row in TEXT],
            "a move less": TEXT[:-1],
        }
        for make in self.each():
            for word, text in rows.items():
                other = make(read_chart(text))
                self.assertEqual(other.standing(), make(CHART).standing(), word)
                self.assertFalse(make(CHART) == other, word)

    def test_runs_that_are_refused(self):
        beyond = read_chart(["fact n 0 3 0", "one r", "  leaf x", "    into set n 4"])
        endless = read_chart(["on h", "one r", "  into raise h", "  leaf x", "    go on h do raise h"])
        for make in self.each():
            self.refused(Beyond, {"fact": "n", "stand": "x"}, make, beyond)
            self.refused(Endless, {}, make, endless)
            self.refused(NoChart, {"wrong": ("chart",)}, make, None)
            self.refused(NoChart, {"wrong": ("root",)}, make, ((), (), ("r", "leaf", (), (), (), ())))

    def test_told_lists_that_are_changed(self):
        for make in self.each():
            run = make(CHART)
            told = run.tell("h")
            told.append("spoiled")
            run.said()[0].append("spoiled")
            run.said().clear()
            twin = run.copy()
            twin.said()[1].clear()
            self.assertEqual(run.said(), [[("begun", 0)], [("x", 1)]])
            self.assertEqual(twin.said(), [[("begun", 0)], [("x", 1)]])
            self.assertIsNot(run.said(), run.said())
            self.assertIsNot(run.said()[1], run.said()[1])

    def test_arguments_by_names(self):
        run = Run(chart=CHART)
        self.assertEqual(run.tell(happening="h"), [("x", 1)])
        made = Coded(code=code(chart=CHART))
        self.assertEqual(made.tell(happening="h"), [("x", 1)])

    def test_methods_stand_in_the_classes_themselves(self):
        methods = ["tell", "standing", "said", "back", "copy", "__eq__", "__len__"]
        for name in methods:
            self.assertIn(name, vars(Run))
            self.assertIn(name, vars(Coded))
        self.assertIn("chart", vars(Run))

    def test_the_chart_of_a_run(self):
        run = Run(CHART)
        run.tell("h")
        self.assertEqual(run.chart(), CHART)
        self.assertEqual(run.copy().chart(), CHART)

    def test_a_begin_is_that_of_start(self):
        for make in self.each():
            standing, said = start(CHART)
            self.assertEqual(make(CHART).standing(), standing)
            self.assertEqual(make(CHART).said(), [said])


if __name__ == "__main__":
    unittest.main()
