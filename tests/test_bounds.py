"""Point 3: all holds up to the bounds."""

import unittest

from deepstands.charts import chart_wrong, names_of, parent_of, room_of, within
from deepstands.errors import NoText
from deepstands.texts import places_of, printed, read_chart

from helpers import chart, guard_of, move, one, stand, term_of


def greatest_chart():
    """All that a chart may have, at once."""
    facts = tuple((f"fact{k}", -999999999, 999999999, k) for k in range(12))
    happenings = tuple(f"h{k}" for k in range(20))
    guard = guard_of(5, ("below", term_of(5), ("fact", "fact1")))
    moves = [move(("on", "h19"), guard, [("set", "fact11", term_of(10)), ("raise", "h0")], ["x50"])] * 2
    inner = stand("x9", moves=moves)
    for k in range(8, 0, -1):
        inner = one(f"x{k}", inner, moves=moves)
    rest = [stand(f"x{k}", moves=moves) for k in range(10, 60)]
    return chart(one("x0", inner, *rest, moves=moves), facts=facts, happenings=happenings)


class TestBounds(unittest.TestCase):
    def test_the_greatest_chart(self):
        told = greatest_chart()
        self.assertIsNone(chart_wrong(told))
        names = names_of(told)
        self.assertEqual(names, [f"x{k}" for k in range(60)])
        self.assertEqual(parent_of(told, "x9"), "x8")
        self.assertIs(within(told, "x1", "x9"), True)
        self.assertEqual(room_of(told, "x9", 1), "x0")
        rows = printed(told)
        self.assertEqual(len(rows), 12 + 20 + 60 + 120)
        self.assertEqual(read_chart(rows), told)
        places = places_of(rows)
        self.assertEqual(places["x0"], (33, [34, 35]))
        self.assertEqual(places["x59"], (210, [211, 212]))

    def test_the_greatest_text(self):
        facts = [f"fact a{k} - 999999999 999999999 0".ljust(100) for k in range(198)]
        text = [*facts, "leaf r".ljust(100), "  go done do say s " + "(" * 40 + "1" + ")" * 40]
        self.assertEqual(max(len(row) for row in text), 100)
        told = read_chart(text)
        self.assertEqual(len(told[0]), 198)
        self.assertEqual(told[2][5][0][2], (("say", "s", ("num", 1)),))
        text[-1] = "  go done if " + "(" * 42 + "a<0" + ")" * 42
        self.assertEqual(len(text[-1]), 100)
        self.assertEqual(read_chart(text)[2][5][0][1], ("below", ("fact", "a"), ("num", 0)))
        text[-1] = "  go done if " + "not " * 21 + "yes"
        self.assertEqual(read_chart(text)[2][5][0][1], guard_of(22))
        text[-1] = "  go done if " + "(" * 87
        with self.assertRaises(NoText) as caught:
            read_chart(text)
        self.assertEqual((caught.exception.row, caught.exception.column), (200, 101))

    def test_as_deep_as_rows_let(self):
        text = ["  " * k + f"one d{k}" for k in range(47)]
        told = read_chart(text)[2]
        for k in range(47):
            self.assertEqual(told[0], f"d{k}")
            told = told[2][0] if told[2] else None
        self.assertEqual(places_of(text)["d46"], (47, []))

    def test_great_terms_of_few_within_one_another(self):
        term = ("fact", "a")
        for _ in range(9):
            term = ("sum", term, term)
        root = one("r", stand("x", into=[("set", "a", term)]), moves=[move(guard=("yes",), deeds=[("say", "s", term)])] * 60)
        told = chart(root)
        self.assertIsNone(chart_wrong(told))
        self.assertEqual(read_chart(printed(told)), told)
