"""Point 2: what is told is the asker's own, the same again when asked again; arguments by places and by names."""

import copy
import inspect
import unittest

from deepstands import alike, charts, code, desk, leads, reach, runs, sayings, steps, texts, trials, workshop
from deepstands.errors import NoHappening, NoMove, NoName

from helpers import chart, move, one, stand

TEXT = ["fact a 0 9 1", "on h", "one r", "  go on h to x", "  leaf x", "    go on h", "  leaf y"]
CHART = chart(one("r", stand("x", moves=[move()]), stand("y"), moves=[move(goals=["x"])]))
INTERFACE = {
    texts: {"read_chart": ["text"], "places_of": ["text"], "printed": ["chart"]},
    charts: {"chart_wrong": ["thing"], "names_of": ["chart"], "parent_of": ["chart", "name"],
             "sort_of": ["chart", "name"], "within": ["chart", "one", "other"], "room_of": ["chart", "name", "move"]},
    steps: {"standing_wrong": ["chart", "thing"], "fits": ["chart", "standing", "what"],
            "chosen": ["chart", "standing", "what"], "step": ["chart", "standing", "happening"], "start": ["chart"],
            "trace": ["chart", "standing", "happening"], "trace_start": ["chart"]},
    runs: {"Run": ["chart"]},
    code: {"code": ["chart"], "code_text": ["code"], "read_code": ["text"], "Coded": ["code"]},
    reach: {"reach": ["chart", "*most"]},
    sayings: {"saying_wrong": ["chart", "thing"], "settled": ["chart", "saying", "*most"],
              "judged": ["chart", "saying", "paper"]},
    trials: {"least_row": ["chart", "goal", "*most"], "trial_of": ["chart", "row"], "tried": ["chart", "trial"],
             "trials": ["chart", "*most"], "cover_wrong": ["chart", "some", "cover"], "idle": ["chart", "*most"],
             "less": ["chart", "*most"]},
    alike: {"alike": ["one", "other", "*most"], "alike_wrong": ["one", "other", "thing"], "lots": ["chart", "*most"],
            "apart": ["chart", "one", "other", "*most"], "least_table": ["chart", "*most"],
            "table_wrong": ["chart", "thing", "*most"]},
    leads: {"led": ["chart", "other", "standing", "names"], "change_wrong": ["chart", "other", "standing", "names"]},
    workshop: {"Workshop": ["text"]},
    desk: {"Desk": ["text"]},
}
METHODS = {"tell": ["self", "happening"], "standing": ["self"], "said": ["self"], "back": ["self"], "copy": ["self"]}
BEGIN = (("r", "x"), (1,), (), ())


class TestTold(unittest.TestCase):
    def test_a_told_text_that_is_changed(self):
        rows = texts.printed(CHART)
        self.assertEqual(rows, TEXT)
        rows[0] = "spoiled"
        rows.append("more")
        self.assertEqual(texts.printed(CHART), TEXT)
        self.assertIsNot(texts.printed(CHART), texts.printed(CHART))

    def test_told_places_that_are_changed(self):
        wanted = {"r": (3, [4]), "x": (5, [6]), "y": (7, [])}
        places = texts.places_of(TEXT)
        self.assertEqual(places, wanted)
        places["r"][1].append(9)
        places["y"][1].append(9)
        del places["x"]
        self.assertEqual(texts.places_of(TEXT), wanted)
        self.assertIsNot(places["r"][1], texts.places_of(TEXT)["r"][1])

    def test_told_names_that_are_changed(self):
        names = charts.names_of(CHART)
        names.clear()
        self.assertEqual(charts.names_of(CHART), ["r", "x", "y"])
        charts.names_of(CHART).append("z")
        self.assertIsNone(charts.chart_wrong(CHART))

    def test_a_handed_text_stays_and_its_changes_do_nothing(self):
        text = list(TEXT)
        told = texts.read_chart(text)
        texts.places_of(text)
        self.assertEqual(text, TEXT)
        text[4] = "  leaf z"
        text.clear()
        self.assertEqual(told, CHART)
        self.assertEqual(texts.read_chart(TEXT), CHART)

    def test_handed_things_stay(self):
        thing = [[("a", [1])], (), one("r", stand("x"), into=[["raise", "h"]])]
        kept = copy.deepcopy(thing)
        charts.chart_wrong(thing)
        charts.chart_wrong(((), (), thing[2]))
        self.assertEqual(thing, kept)

    def test_a_refusal_does_not_change_with_what_was_handed_in(self):
        name, inner = ["x"], ["y"]
        with self.assertRaises(NoName) as caught:
            charts.parent_of(CHART, name)
        with self.assertRaises(NoMove) as other:
            charts.room_of(CHART, "x", ("x", inner, [inner]))
        name.append("z")
        inner.append("z")
        self.assertEqual(caught.exception.name, ["x"])
        self.assertEqual(other.exception.number, ("x", ["y"], [["y"]]))
        with self.assertRaises(NoMove) as caught:
            charts.room_of(CHART, "x", (inner, ("x",)))
        inner.clear()
        self.assertEqual(caught.exception.number, (["y", "z"], ("x",)))

    def test_what_is_refused_may_be_great(self):
        name = ["x"]
        for _ in range(5000):
            name = [name]
        with self.assertRaises(NoName) as caught:
            charts.sort_of(CHART, name)
        self.assertIsInstance(caught.exception.name, list)

    def test_asked_again_it_is_the_same(self):
        for _ in range(2):
            self.assertEqual(texts.read_chart(TEXT), CHART)
            self.assertEqual(charts.room_of(CHART, "r", 0), "r")
            self.assertEqual(charts.chart_wrong(((), (), None)), ("stand", ()))


class TestToldOfSteps(unittest.TestCase):
    def test_told_lists_that_are_changed(self):
        asked = [
            (lambda: steps.fits(CHART, BEGIN, ("on", "h")), [("r", 0), ("x", 0)]),
            (lambda: steps.chosen(CHART, BEGIN, ("on", "h")), [("x", 0)]),
            (lambda: steps.step(CHART, BEGIN, "h")[1], []),
            (lambda: steps.start(CHART)[1], []),
            (lambda: steps.trace(CHART, BEGIN, "h"), [(("on", "h"), [("x", 0)], [], [])]),
            (lambda: steps.trace(CHART, BEGIN, "h")[0][1], [("x", 0)]),
            (lambda: steps.trace_start(CHART), [(("start",), [], [], ["r", "x"])]),
            (lambda: steps.trace_start(CHART)[0][3], ["r", "x"]),
        ]
        for ask, wanted in asked * 2:
            told = ask()
            self.assertEqual(told, wanted)
            self.assertIsInstance(told, list)
            told.append("spoiled")
            told[0] = "spoiled"
            self.assertEqual(ask(), wanted)
        rows = code.code(CHART)
        kept = list(rows)
        rows.pop()
        self.assertEqual(code.code(CHART), kept)

    def test_handed_things_stay(self):
        standing = [["r", "x"], [1], [], []]
        kept = copy.deepcopy(standing)
        self.assertEqual(steps.standing_wrong(CHART, standing), ("form",))
        self.assertEqual(standing, kept)
        what = ["on", "h"]
        with self.assertRaises(NoHappening):
            steps.fits(CHART, BEGIN, what)
        self.assertEqual(what, ["on", "h"])

    def test_asked_again_it_is_the_same(self):
        for _ in range(2):
            self.assertEqual(steps.step(CHART, BEGIN, "h"), (BEGIN, []))
            self.assertEqual(steps.step(CHART, (("r", "y"), (1,), (), ()), "h")[0], BEGIN)
            self.assertEqual(steps.standing_wrong(CHART, ((), (), (), ())), ("stood",))


class TestArguments(unittest.TestCase):
    def test_methods(self):
        for made in (runs.Run, code.Coded):
            for name, wanted in METHODS.items():
                self.assertEqual(list(inspect.signature(vars(made)[name]).parameters), wanted)

    def test_arguments_of_steps_by_names(self):
        happening = {"chart": CHART, "standing": BEGIN, "happening": "h"}
        what = {"what": ("on", "h"), "standing": BEGIN, "chart": CHART}
        self.assertIsNone(steps.standing_wrong(thing=BEGIN, chart=CHART))
        self.assertEqual(steps.fits(**what), [("r", 0), ("x", 0)])
        self.assertEqual(steps.chosen(**what), [("x", 0)])
        self.assertEqual(steps.step(**happening), (BEGIN, []))
        self.assertEqual(steps.trace(**happening)[0][1], [("x", 0)])
        self.assertEqual(steps.start(chart=CHART), (BEGIN, []))
        self.assertEqual(len(steps.trace_start(chart=CHART)), 1)

    def test_names_of_arguments_and_files(self):
        for file, functions in INTERFACE.items():
            for name, wanted in functions.items():
                function = getattr(file, name)
                self.assertEqual(function.__module__, file.__name__)
                told = inspect.signature(function).parameters
                self.assertEqual(list(told), [argument.lstrip("*") for argument in wanted])
                for argument, parameter in zip(wanted, told.values()):
                    if argument.startswith("*"):
                        self.assertEqual((parameter.kind, parameter.default), (parameter.KEYWORD_ONLY, 2000))
                        continue
                    self.assertEqual(parameter.kind, parameter.POSITIONAL_OR_KEYWORD)
                    self.assertIs(parameter.default, parameter.empty)

    def test_classes_have_their_own_methods(self):
        shop = ("start tell tick standing said edit stop back text chart titles log").split()
        for made, methods in ((runs.Run, [*METHODS, "chart", "__eq__", "__len__"]), (code.Coded, [*METHODS, "__eq__", "__len__"]),
                              (workshop.Workshop, shop), (desk.Desk, ["say"])):
            for name in methods:
                self.assertIn(name, vars(made))

    def test_arguments_by_names(self):
        self.assertEqual(texts.read_chart(text=TEXT), CHART)
        self.assertEqual(texts.places_of(text=["leaf r"]), {"r": (1, [])})
        self.assertEqual(texts.printed(chart=CHART), TEXT)
        self.assertEqual(charts.chart_wrong(thing=()), ("chart",))
        self.assertEqual(charts.names_of(chart=CHART), ["r", "x", "y"])
        self.assertEqual(charts.parent_of(name="x", chart=CHART), "r")
        self.assertEqual(charts.sort_of(name="r", chart=CHART), "one")
        self.assertIs(charts.within(other="x", one="r", chart=CHART), True)
        self.assertIs(charts.within(CHART, other="r", one="x"), False)
        self.assertEqual(charts.room_of(move=0, name="r", chart=CHART), "r")
