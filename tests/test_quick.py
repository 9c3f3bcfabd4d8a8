"""That answers don't take long: how many functions are called for one, which is the same on each machine, how long a loop
of such calls takes, and that nothing is left behind that must be looked for before it can be thrown away."""

import gc
import sys
import textwrap
import unittest

from deepstands.alike import alike, alike_wrong, apart, least_table, lots, table_wrong
from deepstands.charts import chart_wrong, names_of
from deepstands.code import Coded, code
from deepstands.desk import Desk
from deepstands.errors import Endless, NoChart
from deepstands.leads import change_wrong, led
from deepstands.reach import reach
from deepstands.runs import Run
from deepstands.sayings import judged, settled
from deepstands.steps import chosen, fits, standing_wrong, start, step, trace, trace_start
from deepstands.texts import read_chart
from deepstands.trials import cover_wrong, idle, least_row, less, trial_of, trials, tried
from deepstands.workshop import Workshop

from test_looking import GREAT, replaced, takes_at_most

TEXT = textwrap.dedent("""
    fact n 0 3 0
    on a
    on b
    on up
    all top
      one lampa
        leaf aoff
          go on a to aon
        leaf aon
          go on a do say lit n to aoff
      one lampb
        leaf boff
          go on b to bon
        leaf bon
          go on b to boff
      one count
        leaf idle
          go on up if n < 3 do set n n + 1
          go on up do set n 0
      one timer
        leaf wait
          go after 2 to fired
        leaf fired
          go after 1 do say beep n to wait
""").strip("\n").split("\n")
CHART = read_chart(TEXT)
STANDING = start(CHART)[0]
WITHIN = ("within", ("in", "aon"), ("in", "fired"), 5)
CAN = ("can", ("in", "aon"), ("in", "bon"))
NEVER = ("never", ("both", ("in", "aon"), ("not", ("in", "lampa"))))
BEHIND = ("behind", "a", ("in", "aoff"), ("in", "aon"))
UNREFUSED = ("unrefused", None)
SAYINGS = (WITHIN, CAN, NEVER, BEHIND, UNREFUSED)
ROW = ["a", "up", "tick", "b"]
# Two things that are no charts: one has a goal that isn't there, the other a stand twice.
NO_GOAL = replaced(GREAT, (2, 2, 2, 2, 2, 5, 0, 3), ("zz",))
TWICE = replaced(GREAT, (2, 2, 2, 2, 2, 0), "a3")


def run_on(run, row):
    for happening in row:
        run.tell(happening)


class TestAnswers(unittest.TestCase):
    """What is asked below is what it is meant to be."""

    def test_the_chart(self):
        self.assertEqual(len(reach(CHART)[0]), 48)
        self.assertEqual([settled(CHART, saying)[0] for saying in SAYINGS], ["holds"] * 5)
        for saying in SAYINGS:
            self.assertIsNone(judged(CHART, saying, settled(CHART, saying)))
        self.assertEqual(len(settled(CHART, WITHIN)[1]), 80)

    def test_the_things_that_are_none(self):
        self.assertEqual(chart_wrong(NO_GOAL), ("goal", "a11", 2))
        self.assertEqual(chart_wrong(TWICE), ("twice", "a3"))


class TestCalls(unittest.TestCase):
    """Each limit is some half more than what is called now; what was looked at anew for each standing and happening
    called two to nine times as many."""

    def calls_at_most(self, most, ask, *args):
        many = 0

        def note(frame, event, thing):
            nonlocal many
            many += event == "call"

        before = sys.getprofile()
        sys.setprofile(note)
        try:
            ask(*args)
        finally:
            sys.setprofile(before)
        self.assertLess(many, most)

    def test_sayings(self):
        for saying, to_settle, to_judge in ((WITHIN, 2000, 2400), (CAN, 1200, 1900), (NEVER, 1500, 1800),
                                            (BEHIND, 1800, 2100), (UNREFUSED, 1500, 1800)):
            self.calls_at_most(to_settle, settled, CHART, saying)
            self.calls_at_most(to_judge, judged, CHART, saying, settled(CHART, saying))

    def test_all_standings(self):
        for most, ask in ((1300, reach), (1500, trials), (1100, idle), (1100, less)):
            self.calls_at_most(most, ask, CHART)

    def test_trials(self):
        self.calls_at_most(1000, trial_of, CHART, ROW * 500)
        self.calls_at_most(600, trial_of, CHART, ROW * 4)
        self.calls_at_most(5000, tried, CHART, trial_of(CHART, ROW * 500))
        self.calls_at_most(650, tried, CHART, trial_of(CHART, ROW * 4))

    def test_runs_and_steps(self):
        self.calls_at_most(1000, lambda: run_on(Run(CHART), ROW * 15))
        rows = code(CHART)
        self.calls_at_most(1000, lambda: run_on(Coded(rows), ROW * 15))
        run = Run(CHART)
        run_on(run, ROW * 15)
        # All that is known then is only looked up.
        self.calls_at_most(60 * 9, run_on, run, ROW * 15)
        self.calls_at_most(120, step, CHART, STANDING, "tick")
        self.calls_at_most(180, step, GREAT, start(GREAT)[0], "go1")
        self.calls_at_most(110, start, GREAT)

    def test_leads(self):
        for ask in (led, change_wrong):
            self.calls_at_most(180, ask, CHART, CHART, STANDING, {})

    def test_what_is_no_chart(self):
        self.calls_at_most(60, chart_wrong, GREAT)
        self.calls_at_most(300, chart_wrong, NO_GOAL)
        self.calls_at_most(100, chart_wrong, TWICE)


class TestTime(unittest.TestCase):
    """Limits that a busy machine keeps."""

    def at_most(self, seconds, many, ask, *args):
        takes_at_most(self, seconds, many, ask, *args)

    def test_sayings(self):
        for saying in SAYINGS:
            paper = settled(CHART, saying)
            self.at_most(0.25, 200, settled, CHART, saying)
            self.at_most(0.35, 200, judged, CHART, saying, paper)

    def test_all_standings(self):
        for ask in (reach, trials, idle, less):
            self.at_most(0.2, 200, ask, CHART)

    def test_trials(self):
        trial = trial_of(CHART, ROW * 500)
        self.at_most(0.06, 20, trial_of, CHART, ROW * 500)
        self.at_most(0.09, 20, tried, CHART, trial)
        self.at_most(0.12, 200, trial_of, CHART, ROW * 4)
        self.at_most(0.12, 200, tried, CHART, trial_of(CHART, ROW * 4))

    def test_runs_and_steps(self):
        rows = code(CHART)
        self.at_most(0.12, 200, lambda: run_on(Run(CHART), ROW * 15))
        self.at_most(0.12, 200, lambda: run_on(Coded(rows), ROW * 15))
        self.at_most(0.12, 1000, step, CHART, STANDING, "tick")
        self.at_most(0.12, 1000, step, CHART, STANDING, "a")
        self.at_most(0.3, 1000, start, GREAT)
        self.at_most(0.35, 1000, step, GREAT, start(GREAT)[0], "go1")

    def test_leads(self):
        for ask in (led, change_wrong):
            self.at_most(0.22, 1000, ask, CHART, CHART, STANDING, {})

    def test_what_is_no_chart(self):
        self.at_most(0.35, 1000, chart_wrong, NO_GOAL)
        self.at_most(0.25, 1000, chart_wrong, TWICE)

    def test_wide_charts(self):
        """Many standings, of which most are alike but for what doesn't matter; many stands, facts and moves."""
        rows = [f"fact n{k} 0 1 0" for k in range(4)] + [f"on h{k}" for k in range(9)] + ["all r"]
        for k in range(4):
            rows += [f"  one p{k}", f"    leaf x{k}", f"      go on h{k} if n{k} = 0 do set n{k} 1 to y{k}",
                     f"    leaf y{k}", f"      go on h{k} do set n{k} 0 to x{k}"]
        rows += ["  one q"] + [row for k in range(30) for row in (
            f"    leaf z{k}", f"      go on h{4 + k % 5} to z{(k + 1) % 30}")]
        wide = read_chart(rows)
        self.assertEqual(len(reach(wide)[0]), 480)
        self.at_most(0.25, 1, reach, wide)
        self.at_most(0.25, 1, settled, wide, ("within", ("in", "y0"), ("in", "z7"), 3))
        self.at_most(0.25, 1, trials, wide)


class TestNothingIsLeft(unittest.TestCase):
    """What a call found out is gone with it, without anything that holds itself."""

    def leaves_nothing(self, ask, *args):
        gc.collect()
        gc.disable()
        try:
            ask(*args)
            self.assertEqual(gc.collect(), 0, ask)
        finally:
            gc.enable()

    def test_steps(self):
        for chart in (CHART, GREAT):
            standing = start(chart)[0]
            self.leaves_nothing(chart_wrong, chart)
            self.leaves_nothing(names_of, chart)
            for ask in (start, trace_start, code):
                self.leaves_nothing(ask, chart)
            for ask in (step, trace):
                self.leaves_nothing(ask, chart, standing, "b")
            for ask in (fits, chosen):
                self.leaves_nothing(ask, chart, standing, ("tick",))
            self.leaves_nothing(standing_wrong, chart, standing)
            self.leaves_nothing(led, chart, chart, standing, {})
        for thing in (NO_GOAL, TWICE, None, ((), (), ())):
            self.leaves_nothing(chart_wrong, thing)

    def test_sayings_and_trials(self):
        for saying in SAYINGS:
            self.leaves_nothing(settled, CHART, saying)
            self.leaves_nothing(judged, CHART, saying, settled(CHART, saying))
        for ask in (reach, trials, idle, less, lots, least_table):
            self.leaves_nothing(ask, CHART)
        self.leaves_nothing(least_row, CHART, ("stand", "fired"))
        self.leaves_nothing(cover_wrong, CHART, *trials(CHART))
        self.leaves_nothing(trial_of, CHART, ROW * 4)
        self.leaves_nothing(tried, CHART, trial_of(CHART, ROW * 4))
        self.leaves_nothing(alike, CHART, CHART)
        self.leaves_nothing(alike_wrong, CHART, CHART, alike(CHART, CHART))
        self.leaves_nothing(table_wrong, CHART, least_table(CHART))
        self.leaves_nothing(apart, CHART, 0, 1)

    def test_runs_and_workshops(self):
        def refused():
            with self.assertRaises(NoChart):
                Run(TWICE)
            with self.assertRaises(Endless):
                Run(read_chart(["on a", "one r", "  into raise a", "  leaf x", "    go on a do raise a"]))

        refused()
        self.leaves_nothing(lambda: run_on(Run(CHART), ROW))
        self.leaves_nothing(lambda: run_on(Coded(code(CHART)).copy(), ROW))
        self.leaves_nothing(lambda: Run(CHART) == Run(CHART))

        def work():
            shop = Workshop(TEXT)
            shop.start("x")
            shop.tick("x")
            shop.edit(TEXT)
            shop.back()
            desk = Desk(TEXT)
            return desk.say("start x"), desk.say("tell x a"), desk.say("fits x tick")
        self.leaves_nothing(work)


if __name__ == "__main__":
    unittest.main()
