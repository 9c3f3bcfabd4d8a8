"""reach: point 19."""

import unittest

from deepstands.errors import Beyond, Endless, NoChart, TooGreat
from deepstands.reach import MOST_STANDINGS, reach
from deepstands.steps import start, step, trace
from deepstands.texts import read_chart

from drawn import Drawn
from helpers import chart, one, stand

CHART = read_chart(["fact n 0 1 0", "on a", "on b", "one r", "  leaf x", "    go on a do set n n + 1, say n n to y",
                    "  leaf y", "    go on a to x", "    go after 1 do say t n"])
STANDINGS = [
    (("r", "x"), (0,), (), ()),
    (("r", "y"), (1,), (("y", 0),), ()),
    (("r", "x"), (1,), (), ()),
    (("r", "y"), (1,), (("y", 1),), ()),
    (("r", "y"), (1,), (("y", 2),), ()),
]
STEPS = [
    [("told", [("n", 1)], [("x", 0)], 1), ("told", [], [], 0), ("told", [], [], 0)],
    [("told", [], [("y", 0)], 2), ("told", [], [], 1), ("told", [("t", 1)], [("y", 1)], 3)],
    [("refused", "Beyond"), ("told", [], [], 2), ("told", [], [], 2)],
    [("told", [], [("y", 0)], 2), ("told", [], [], 3), ("told", [], [], 4)],
    [("told", [], [("y", 0)], 2), ("told", [], [], 4), ("told", [], [], 4)],
]


class TestReach(unittest.TestCase):
    def refused(self, error, ask, *args, **more):
        with self.assertRaises(error) as caught:
            ask(*args, **more)
        return caught.exception

    def test_standings_and_steps_in_order(self):
        told = reach(CHART)
        self.assertEqual(told, (STANDINGS, STEPS))
        self.assertIsInstance(told, tuple)
        self.assertEqual(repr(told), repr((STANDINGS, STEPS)))

    def test_a_move_chosen_at_two_whats_is_there_twice(self):
        told = reach(read_chart(["fact n 0 9 0", "on a", "one r", "  leaf x",
                                 "    go on a if n < 2 do set n n + 1, raise a"]))
        self.assertEqual(told[0], [(("r", "x"), (0,), (), ()), (("r", "x"), (2,), (), ())])
        self.assertEqual(told[1][0][0], ("told", [], [("x", 0), ("x", 0)], 1))
        self.assertEqual(told[1][1][0], ("told", [], [], 1))

    def test_refused_steps_of_both_words(self):
        told = reach(read_chart(["fact n 0 9 0", "on a", "on b", "one r", "  leaf x", "    go on a do raise a",
                                 "    go on b do set n 1, set n 10"]))
        self.assertEqual(told, ([(("r", "x"), (0,), (), ())],
                                [[("refused", "Endless"), ("refused", "Beyond"), ("told", [], [], 0)]]))

    def test_a_chart_without_happenings(self):
        told = reach(chart(one("r", stand("x", moves=[(("after", 2), ("yes",), (), ())])), facts=(), happenings=()))
        self.assertEqual(told[0], [(("r", "x"), (), (("x", k),), ()) for k in range(4)])
        self.assertEqual(told[1][3], [("told", [], [], 3)])
        self.assertEqual(told[1][1], [("told", [], [("x", 0)], 2)])

    def test_too_great(self):
        self.assertEqual(reach(CHART, most=5), (STANDINGS, STEPS))
        for most in (1, 2, 4):
            self.assertEqual(self.refused(TooGreat, reach, CHART, most=most).most, most)
        self.assertEqual(len(reach(chart(one("r", stand("x"))), most=1)[0]), 1)

    def test_the_most_that_is_not_told(self):
        self.assertEqual(MOST_STANDINGS, 2000)
        text = ["fact n 0 1999 0", "on a", "one r", "  leaf x", "    go on a if n < 1999 do set n n + 1"]
        self.assertEqual(len(reach(read_chart(text))[0]), 2000)
        text[0] = "fact n 0 2000 0"
        text[4] = "    go on a if n < 2000 do set n n + 1"
        self.assertEqual(self.refused(TooGreat, reach, read_chart(text)).most, 2000)
        self.assertEqual(len(reach(read_chart(text), most=2001)[0]), 2001)

    def test_refused_ahead_of_all(self):
        self.assertEqual(self.refused(NoChart, reach, None, most=1).wrong, ("chart",))
        beyond = self.refused(Beyond, reach, chart(one("r", stand("x", into=[("set", "a", ("num", 10))]))), most=1)
        self.assertEqual((beyond.fact, beyond.stand), ("a", "x"))
        self.refused(Endless, reach, chart(one("r", stand("x", into=[("raise", "h")], moves=[
            (("on", "h"), ("yes",), (("raise", "h"),), ())]))), most=1)

    def test_lists_that_are_changed(self):
        for _ in range(2):
            standings, steps = reach(CHART)
            self.assertEqual((standings, steps), (STANDINGS, STEPS))
            lists = [steps] + steps + [x for row in steps for cell in row if cell[0] == "told" for x in cell[1:3]]
            self.assertEqual(len({id(x) for x in lists}), len(lists))
            for told in [standings] + lists:
                told.append("spoiled")

    def test_arguments(self):
        self.assertEqual(reach(most=9, chart=CHART), (STANDINGS, STEPS))
        with self.assertRaises(TypeError):
            reach(CHART, 9)

    def test_reach_and_step_tell_the_same(self):
        """And what slow.py tells."""
        for seed in range(60):
            drawn = Drawn(seed, most=40)
            standings, steps = reach(drawn.chart)
            self.assertEqual(standings, drawn.standings)
            self.assertEqual(standings[0], start(drawn.chart)[0])
            for standing, row in zip(standings, steps):
                self.assertEqual(len(row), len(drawn.slow.happenings))
                for happening, cell in zip(drawn.slow.happenings, row):
                    done = drawn.slow.go(standing, happening)
                    if done[0] == "refused":
                        self.assertEqual(cell, done)
                        with self.assertRaises((Beyond, Endless)) as caught:
                            step(drawn.chart, standing, happening)
                        self.assertEqual(caught.exception.__class__.__name__, cell[1])
                        continue
                    self.assertEqual(cell, ("told", done[2], done[3], standings.index(done[1])))
                    self.assertEqual(step(drawn.chart, standing, happening), (standings[cell[3]], cell[1]))
                    went = [move for told in trace(drawn.chart, standing, happening) for move in told[1]]
                    self.assertEqual(cell[2], went)

    def test_too_great_just_where_there_are_more(self):
        for seed in range(30):
            drawn = Drawn(seed)
            many = len(drawn.standings)
            self.assertEqual(len(reach(drawn.chart, most=many)[0]), many)
            if many > 1:
                self.refused(TooGreat, reach, drawn.chart, most=many - 1)


if __name__ == "__main__":
    unittest.main()
