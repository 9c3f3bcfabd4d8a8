"""trace and trace_start: point 16."""

import textwrap
import unittest

from deepstands.errors import Beyond, Endless, NoChart, NoHappening, NoStanding
from deepstands.steps import start, trace, trace_start
from deepstands.texts import read_chart

CHART = read_chart(textwrap.dedent("""
    fact n 0 9 1
    on h
    on k
    all r
      into raise k
      one p
        go done do set n n + 1 to x
        leaf x
          go on h to e
          go after 2 do raise h
        end e
          into raise k
          go after 1 to b
        back b
      one q
        leaf y
          go on h do raise k to z
          go on k if in e to z
        all z
          leaf z1
          one z2
            leaf z3
            end z4
""").strip("\n").split("\n"))
# The room of p's move is the root, as p stands straight in an all.
ANEW = (("done", "p"), [("p", 0)], ["z3", "z2", "z1", "z", "q", "e", "p"], ["p", "x", "q", "y"])
BEGIN = (("r", "p", "x", "q", "y"), (1,), (("x", 0),), ())


class TestTrace(unittest.TestCase):
    def traced(self, standing, happening, *wanted):
        told = trace(CHART, standing, happening)
        self.assertEqual(told, list(wanted))
        self.assertIsInstance(told, list)
        for row in told:
            self.assertIsInstance(row, tuple)
            for part in row[1:]:
                self.assertIsInstance(part, list)

    def test_start(self):
        self.assertEqual(trace_start(CHART), [(("start",), [], [], ["r", "p", "x", "q", "y"]), (("on", "k"), [], [], [])])
        self.assertEqual(start(CHART)[0], BEGIN)

    def test_each_what_taken(self):
        self.traced(
            BEGIN, "h",
            (("on", "h"), [("x", 0), ("y", 0)], ["y", "x"], ["e", "z", "z1", "z2", "z3"]),
            (("on", "k"), [], [], []),
            (("on", "k"), [], [], []),
            ANEW,
        )

    def test_where_no_move_is_chosen(self):
        self.traced(BEGIN, "k", (("on", "k"), [], [], []))
        self.traced(BEGIN, "tick", (("tick",), [], [], []))

    def test_ticks(self):
        standing = BEGIN[:2] + ((("x", 1),), ())
        self.traced(
            standing, "tick",
            (("tick",), [("x", 1)], [], []),
            (("on", "h"), [("x", 0), ("y", 0)], ["y", "x"], ["e", "z", "z1", "z2", "z3"]),
            (("on", "k"), [], [], []),
            (("on", "k"), [], [], []),
            ANEW,
        )

    def test_a_marker_that_is_gone_back_to(self):
        standing = (("r", "p", "e", "q", "z", "z1", "z2", "z4"), (1,), (("e", 0),), (("b", ("x",)),))
        self.traced(standing, "tick", (("tick",), [("e", 0)], ["e"], ["x"]))
        standing = standing[:3] + ((("b", ("e",)),),)
        self.traced(
            standing, "tick", (("tick",), [("e", 0)], ["e"], ["e"]), (("on", "k"), [], [], []),
            ANEW[:2] + (["z4", "z2", "z1", "z", "q", "e", "p"],) + ANEW[3:],
        )

    def test_the_order_of_what_is_left_and_entered(self):
        standing = (("r", "p", "x", "q", "z", "z1", "z2", "z3"), (1,), (("x", 0),), ())
        chart = CHART[:2] + (CHART[2][:5] + (((("on", "k"), ("yes",), (), ("x", "y")),),),)
        self.assertEqual(trace(chart, standing, "k"), [
            (("on", "k"), [("r", 0)], ["z3", "z2", "z1", "z", "q", "x", "p"], ["p", "x", "q", "y"])])

    def refused(self, error, fields, ask, *args):
        with self.assertRaises(error) as caught:
            ask(*args)
        for field, wanted in fields.items():
            self.assertEqual(getattr(caught.exception, field), wanted)

    def test_refusals(self):
        self.refused(NoChart, {"wrong": ("chart",)}, trace, (), None, None)
        self.refused(NoChart, {"wrong": ("chart",)}, trace_start, ())
        self.refused(NoStanding, {"wrong": ("worths",)}, trace, CHART, BEGIN[:1] + ((10,),) + BEGIN[2:], None)
        self.refused(NoHappening, {"what": ("on", "h")}, trace, CHART, BEGIN, ("on", "h"))
        self.refused(Beyond, {"fact": "n", "stand": "p"}, trace, CHART, BEGIN[:1] + ((9,),) + BEGIN[2:], "h")
        chart = CHART[:2] + (CHART[2][:5] + (((("on", "k"), ("yes",), (("raise", "k"),), ()),),),)
        self.refused(Endless, {}, trace, chart, BEGIN, "k")
        self.refused(Endless, {}, trace_start, chart)


if __name__ == "__main__":
    unittest.main()
