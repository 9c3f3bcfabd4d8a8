"""code, code_text, read_code: point 18. What a Coded does is asked beside what a Run does, in test_runs, test_agree."""

import copy
import unittest

from deepstands.code import Coded, code, code_text, read_code
from deepstands.errors import NoChart, NoText
from deepstands.texts import read_chart

from helpers import YES, both, chart, guard_of, move, one, stand, term_of
from plain import Wild
from test_bounds import greatest_chart

LESS = ("fact", "less")
# Names that are words of the code, too.
NAMES = chart(
    one("stand",
        stand("sum", moves=[move(("on", "num"), ("both", ("in", "sum"), ("same", ("fact", "fact1"), LESS)),
                                 [("set", "less", ("less", LESS, ("num", 0))), ("say", "num", ("num", 5))], ["none"])]),
        both("none", stand("move"), one("code", stand("below"), stand("same", "back"))), stand("not1", "deep"),
        into=[("raise", "either"), ("set", "less", ("num", 7))], out=[("raise", "num")]),
    facts=(("fact1", -999999999, 999999999, -1), ("less", 0, 9, 7)), happenings=("num", "either", "both"),
)


class TestCode(unittest.TestCase):
    def charts(self):
        told = [NAMES, greatest_chart(), chart(one("r", stand("x")))]
        told.append(chart(both("r", stand("x")), facts=(), happenings=()))
        told.append(chart(one("r", stand("x", into=[("set", "a", term_of(10))], moves=[move(guard=guard_of(10))]))))
        deep_guard = guard_of(5, ("below", term_of(5), ("fact", "a")))
        told.append(chart(one("r", stand("x", moves=[(("after", 99), deep_guard, (), ("x",))]))))
        return told + [Wild(seed).chart() for seed in range(40)]

    def are_kinds(self, thing, deep):
        """Whether it is a text, a whole number, None, or a tuple of such, at most so deep."""
        if isinstance(thing, tuple):
            return deep > 0 and all(self.are_kinds(part, deep - 1) for part in thing)
        return thing is None or isinstance(thing, str) or isinstance(thing, int) and not isinstance(thing, bool)

    def test_rows(self):
        for told in self.charts():
            rows = code(told)
            self.assertIsInstance(rows, list)
            for row in rows:
                self.assertIsInstance(row, tuple)
                self.assertTrue(self.are_kinds(row, 8), row)

    def test_there_and_back(self):
        for told in self.charts():
            rows = code(told)
            text = code_text(rows)
            self.assertIsInstance(text, str)
            self.assertFalse(text.endswith("\n"))
            again = read_code(text)
            self.assertEqual(again, rows)
            self.assertEqual(repr(again), repr(rows))
            self.assertEqual(code_text(again), text)

    def test_a_row_left_out(self):
        for told in self.charts():
            rows = code_text(code(told)).split("\n")
            for k in range(len(rows)):
                self.refused("\n".join(rows[:k] + rows[k + 1:]))
            self.refused("\n".join(rows[2:]))
            self.refused("\n".join(rows[:1]))
            self.refused("")

    def refused(self, text):
        with self.assertRaises(NoText) as caught:
            read_code(text)
        self.assertEqual((caught.exception.row, caught.exception.column), (0, 0))

    def test_brackets_that_do_not_pair(self):
        for text in (")", "code 1 )", "code 1 ) (", "code 2\nstand ) ("):
            self.refused(text)

    def test_unlike_charts_have_unlike_code(self):
        seen = [code(told) for told in self.charts()]
        for k, rows in enumerate(seen):
            self.assertNotIn(rows, seen[:k])
        self.assertNotEqual(code(chart(one("r", stand("x")), happenings=("h", "k"))),
                            code(chart(one("r", stand("x")), happenings=("k", "h"))))

    def test_no_chart(self):
        for thing, wrong in ((None, ("chart",)), ((), ("chart",)), (chart(stand("r")), ("root",))):
            with self.assertRaises(NoChart) as caught:
                code(thing)
            self.assertEqual(caught.exception.wrong, wrong)

    def test_code_of_a_chart_whose_begin_is_refused(self):
        told = chart(one("r", stand("x", into=[("set", "a", ("num", 10))])))
        rows = code(told)
        self.assertEqual(read_code(code_text(rows)), rows)

    def test_code_alone_is_gone_by(self):
        told = read_chart(["fact n 0 9 0", "on h", "one r", "  leaf x", "    go on h do say s n, set n n + 1 to y",
                           "  leaf y", "    go after 1 do say late 0 - n to x"])
        run = Coded(read_code(code_text(code(told))))
        for happening, wanted in (("h", ("s", 0)), ("tick", ("late", -1)), ("h", ("s", 1))):
            self.assertEqual(run.tell(happening), [wanted])
        self.assertEqual(run.standing(), (("r", "y"), (2,), (("y", 0),), ()))
        self.assertTrue(run == run.copy())
        self.assertTrue(Coded(code(told)) == Coded(read_code(code_text(code(told)))))

    def test_code_that_is_changed_behind_it(self):
        rows = code(NAMES)
        kept = copy.deepcopy(rows)
        text = code_text(rows)
        run, other = Coded(rows), Coded(kept)
        self.assertEqual(rows, kept)
        rows.clear()
        self.assertEqual(run.tell("num"), other.tell("num"))
        self.assertTrue(run == other)
        self.assertTrue(run.copy() == other)
        self.assertEqual(code(NAMES), kept)
        read_code(text).clear()
        self.assertEqual(read_code(text), kept)

    def test_names_that_are_words_of_the_code(self):
        self.assertEqual(NAMES[2][5], ())
        run = Coded(read_code(code_text(code(NAMES))))
        self.assertEqual(run.standing(), (("stand", "sum"), (-1, 7), (), ()))
        self.assertEqual(run.tell("num"), [])
        self.assertEqual(run.tell("both"), [])

    def test_arguments_by_names(self):
        rows = code(chart=NAMES)
        self.assertEqual(read_code(text=code_text(code=rows)), rows)
        self.assertEqual(YES, ("yes",))


if __name__ == "__main__":
    unittest.main()
