"""Point 3: all holds up to the bounds."""

import unittest

from deepstands.charts import chart_wrong, names_of, parent_of, room_of, within
from deepstands.code import Coded, code, code_text, read_code
from deepstands.errors import Endless, NoText
from deepstands.runs import Run
from deepstands.steps import standing_wrong, start, step
from deepstands.texts import places_of, printed, read_chart

from helpers import both, chart, guard_of, move, one, stand, term_of
from plain import Plain


def greatest_chart():
    """All that a chart may have, at once."""
    facts = tuple((f"fact{k}", -999999999, 999999999, k) for k in range(12))
    happenings = tuple(f"h{k}" for k in range(20))
    guard = guard_of(5, ("below", term_of(5), ("fact", "fact1")))
    moves = [move(("on", "h19"), guard, [("set", "fact11", term_of(10)), ("raise", "h0")], ["x50"])] * 2
    inner = stand("x9", moves=moves)
    for k in range(8, 0, -1):
        inner = one(f"x{k}", inner, moves=moves)
    rest = [stand(f"x{k}", moves=moves) for k in range(10, 60)]
    return chart(one("x0", inner, *rest, moves=moves), facts=facts, happenings=happenings)


class TestBounds(unittest.TestCase):
    def test_the_greatest_chart(self):
        told = greatest_chart()
        self.assertIsNone(chart_wrong(told))
        names = names_of(told)
        self.assertEqual(names, [f"x{k}" for k in range(60)])
        self.assertEqual(parent_of(told, "x9"), "x8")
        self.assertIs(within(told, "x1", "x9"), True)
        self.assertEqual(room_of(told, "x9", 1), "x0")
        rows = printed(told)
        self.assertEqual(len(rows), 12 + 20 + 60 + 120)
        self.assertEqual(read_chart(rows), told)
        places = places_of(rows)
        self.assertEqual(places["x0"], (33, [34, 35]))
        self.assertEqual(places["x59"], (210, [211, 212]))

    def test_the_greatest_text(self):
        facts = [f"fact a{k} - 999999999 999999999 0".ljust(100) for k in range(198)]
        text = [*facts, "leaf r".ljust(100), "  go done do say s " + "(" * 40 + "1" + ")" * 40]
        self.assertEqual(max(len(row) for row in text), 100)
        told = read_chart(text)
        self.assertEqual(len(told[0]), 198)
        self.assertEqual(told[2][5][0][2], (("say", "s", ("num", 1)),))
        text[-1] = "  go done if " + "(" * 42 + "a<0" + ")" * 42
        self.assertEqual(len(text[-1]), 100)
        self.assertEqual(read_chart(text)[2][5][0][1], ("below", ("fact", "a"), ("num", 0)))
        text[-1] = "  go done if " + "not " * 21 + "yes"
        self.assertEqual(read_chart(text)[2][5][0][1], guard_of(22))
        text[-1] = "  go done if " + "(" * 87
        with self.assertRaises(NoText) as caught:
            read_chart(text)
        self.assertEqual((caught.exception.row, caught.exception.column), (200, 101))

    def test_as_deep_as_rows_let(self):
        text = ["  " * k + f"one d{k}" for k in range(47)]
        told = read_chart(text)[2]
        for k in range(47):
            self.assertEqual(told[0], f"d{k}")
            told = told[2][0] if told[2] else None
        self.assertEqual(places_of(text)["d46"], (47, []))

    def test_great_terms_of_few_within_one_another(self):
        term = ("fact", "a")
        for _ in range(9):
            term = ("sum", term, term)
        root = one("r", stand("x", into=[("set", "a", term)]), moves=[move(guard=("yes",), deeds=[("say", "s", term)])] * 60)
        told = chart(root)
        self.assertIsNone(chart_wrong(told))
        self.assertEqual(read_chart(printed(told)), told)

    def test_the_greatest_chart_is_gone_by(self):
        chart = greatest_chart()
        plain = Plain(chart)
        standing = plain.start()[0]
        self.assertEqual(start(chart)[0], standing)
        run, made = Run(chart), Coded(read_code(code_text(code(chart))))
        self.assertEqual((run.standing(), made.standing()), (standing, standing))
        for happening in ("h19", "h0", "tick"):
            standing, said = plain.step(standing, happening)
            self.assertEqual((run.tell(happening), made.tell(happening)), (said, said))
            self.assertEqual((run.standing(), made.standing()), (standing, standing))
            self.assertIsNone(standing_wrong(chart, standing))

    def test_two_thousand_happenings(self):
        text = ["fact n 0 9 0", "on h", "one r", "  leaf x", "    go on h if n < 9 do set n n + 1, say s n",
                "    go after 2 do set n 0"]
        run = Run(read_chart(text))
        made = Coded(code(read_chart(text)))
        for k in range(2000):
            happening = "tick" if k % 11 == 10 else "h"
            self.assertEqual(run.tell(happening), made.tell(happening))
        self.assertEqual((len(run), len(made), len(run.said())), (2000, 2000, 2001))
        self.assertEqual(run.said(), made.said())
        self.assertEqual(run.standing(), (("r", "x"), (9,), (("x", 3),), ()))
        for _ in range(2000):
            run.back()
        self.assertEqual((run.standing(), len(run)), ((("r", "x"), (0,), (("x", 0),), ()), 0))

    def test_terms_and_guards_ten_deep_are_gone_by(self):
        term = ("fact", "a")
        for _ in range(9):
            term = ("sum", term, ("num", 1))
        guard = guard_of(8, ("same", ("num", 1), ("num", 1)))
        told = chart(one("r", stand("x", moves=[(("on", "h"), guard_of(2, guard), (("say", "s", term),), ()),
                                                (("on", "h"), guard, (("say", "s", term),), ())])))
        self.assertIsNone(chart_wrong(told))
        self.assertEqual(step(told, start(told)[0], "h")[1], Plain(told).step(start(told)[0], "h")[1])
        self.assertEqual(Coded(code(told)).tell("h"), [("s", 10)])

    def test_a_row_that_is_full_of_whats(self):
        regions = [stand(f"x{k}", moves=[move(deeds=[("raise", "h")] * 9)]) for k in range(50)]
        told = chart(both("r", *regions))
        with self.assertRaises(Endless):
            step(told, start(told)[0], "h")
