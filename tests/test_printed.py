"""printed: point 8."""

import unittest

from deepstands.errors import NoChart
from deepstands.texts import printed, read_chart

from helpers import YES, Maker, both, chart, guard_of, move, one, stand, term_of

A, B, C = ("fact", "a"), ("fact", "b"), ("fact", "c")
IN_P, IN_Q = ("in", "p"), ("in", "q")
FACTS = (("a", 0, 9, 1), ("b", 0, 9, 1), ("c", 0, 9, 1))


def charted(**more):
    return chart(one("r", stand("p", **more), stand("q")), facts=FACTS)


def row_of(**more):
    """The row of a stand that has just one."""
    return printed(charted(**more))[6]


def term_words(term):
    return row_of(into=[("say", "s", term)])[len("    into say s "):]


def guard_words(guard):
    return row_of(moves=[move(guard=guard)])[len("    go on h if "):]


class TestPrinted(unittest.TestCase):
    def test_all_that_a_chart_may_have(self):
        p = one(
            "p", stand("b", "back"), stand("x", moves=[move(("after", 10), IN_P, [("raise", "h")], ["y"])]),
            stand("e", "end"), stand("d", "deep"),
            into=[("set", "m", ("num", 3)), ("raise", "k"), ("say", "s", ("fact", "m"))], out=[("raise", "h")],
            moves=[move(("done",)), move(("on", "k"), goals=["x", "y"])],
        )
        root = both("r", p, one("o", stand("y")), moves=[move(deeds=[("raise", "h")])])
        wanted = [
            "fact m -5 10 0", "fact n -999999999 -1 -7", "on h", "on k",
            "all r", "  go on h do raise h",
            "  one p", "    into set m 3, raise k, say s m", "    out raise h", "    go done", "    go on k to x, y",
            "    back b",
            "    leaf x", "      go after 10 if in p do raise h to y",
            "    end e",
            "    deep d",
            "  one o", "    leaf y",
        ]
        told = chart(root, facts=(("m", -5, 10, 0), ("n", -999999999, -1, -7)), happenings=("h", "k"))
        self.assertEqual(printed(told), wanted)
        self.assertEqual(read_chart(wanted), told)

    def test_goals_have_a_comma_between(self):
        root = both("r", one("p", stand("x")), one("q", stand("y")), moves=[move(goals=["y", "x"])])
        self.assertEqual(printed(chart(root, facts=()))[2], "  go on h to y, x")

    def test_no_if_of_yes(self):
        self.assertEqual(row_of(moves=[move()]), "    go on h")
        self.assertEqual(row_of(moves=[move(guard=("not", YES))]), "    go on h if not yes")

    def test_no_minus_ahead_of_nought(self):
        self.assertEqual(printed(chart(one("r", stand("x")), facts=(("a", -1, 0, 0),), happenings=())),
                         ["fact a -1 0 0", "one r", "  leaf x"])

    def test_terms(self):
        self.assertEqual(term_words(("num", 0)), "0")
        self.assertEqual(term_words(A), "a")
        self.assertEqual(term_words(("sum", A, B)), "a + b")
        self.assertEqual(term_words(("less", A, ("num", 12))), "a - 12")

    def test_brackets_of_terms(self):
        for word, sign in (("sum", "+"), ("less", "-")):
            for inner, within in (("sum", "+"), ("less", "-")):
                self.assertEqual(term_words((word, (inner, A, B), C)), f"a {within} b {sign} c")
                self.assertEqual(term_words((word, A, (inner, B, C))), f"a {sign} (b {within} c)")
        deep = ("less", ("less", A, ("sum", B, ("less", C, A))), ("sum", ("less", A, B), C))
        self.assertEqual(term_words(deep), "a - (b + (c - a)) - (a - b + c)")

    def test_guards(self):
        self.assertEqual(guard_words(IN_P), "in p")
        self.assertEqual(guard_words(("below", ("sum", A, B), ("less", A, ("sum", B, C)))), "a + b < a - (b + c)")
        self.assertEqual(guard_words(("same", A, ("less", B, C))), "a = b - c")
        self.assertEqual(guard_words(("both", YES, IN_P)), "yes and in p")

    def test_brackets_of_guards(self):
        joined = (("both", "and"), ("either", "or"))
        for word, sign in joined:
            self.assertEqual(guard_words(("not", (word, IN_P, IN_Q))), f"not (in p {sign} in q)")
            for inner, within in joined:
                second = guard_words((word, IN_P, (inner, IN_Q, YES)))
                self.assertEqual(second, f"in p {sign} (in q {within} yes)")
        self.assertEqual(guard_words(("both", ("either", IN_P, IN_Q), YES)), "(in p or in q) and yes")
        self.assertEqual(guard_words(("both", ("both", IN_P, IN_Q), YES)), "in p and in q and yes")
        self.assertEqual(guard_words(("either", ("both", IN_P, IN_Q), YES)), "in p and in q or yes")
        self.assertEqual(guard_words(("either", ("either", IN_P, IN_Q), YES)), "in p or in q or yes")

    def test_no_brackets_of_guards(self):
        below = ("below", A, B)
        self.assertEqual(guard_words(("not", ("not", below))), "not not a < b")
        self.assertEqual(guard_words(("not", ("same", A, B))), "not a = b")
        self.assertEqual(guard_words(("both", ("not", below), ("not", below))), "not a < b and not a < b")
        self.assertEqual(guard_words(("either", below, ("not", ("both", below, YES)))),
                         "a < b or not (a < b and yes)")
        self.assertEqual(guard_words(("both", ("either", ("either", YES, YES), below), ("either", YES, YES))),
                         "(yes or yes or a < b) and (yes or yes)")

    def test_read_again_it_is_the_same_chart(self):
        for seed in range(150):
            told = Maker(seed).chart()
            rows = printed(told)
            self.assertEqual(read_chart(rows), told, seed)
            self.assertEqual(printed(read_chart(rows)), rows, seed)
            for row in rows:
                self.assertEqual(row, row.rstrip(" "))
                self.assertNotIn("  ", row.lstrip(" "))
                for wrong in ("( ", " )", " ,", "-0"):
                    self.assertNotIn(wrong, row)
                self.assertNotIn(row.lstrip(" ")[:2], ("", "--"))

    def test_rows_of_more_than_a_hundred_signs_are_read(self):
        term = ("num", 999999999)
        for _ in range(7):
            term = ("less", term, term)
        guard = ("either", ("below", term, term), ("both", YES, YES))
        told = charted(moves=[move(guard=guard, deeds=[("say", "abcdefgh", term)] * 3)])
        rows = printed(told)
        self.assertGreater(len(rows[6]), 100)
        self.assertEqual(read_chart(rows), told)

    def test_ten_within_one_another_are_printed(self):
        for guard in (guard_of(10), ("below", term_of(9), ("num", 1))):
            told = charted(moves=[move(guard=guard, deeds=[("set", "a", term_of(10))])])
            self.assertEqual(read_chart(printed(told)), told)

    def test_what_is_no_chart(self):
        for thing, wrong in (
            (None, ("chart",)), (7, ("chart",)), ("", ("chart",)), ((), ("chart",)), ([], ("chart",)),
            (((), (), None), ("stand", ())), (charted(moves=[move(("on", "k"))]), ("happening", "p", 2)),
            (read_chart(["leaf r"]), ("root",)),
        ):
            with self.assertRaises(NoChart) as caught:
                printed(thing)
            self.assertEqual(caught.exception.wrong, wrong)
