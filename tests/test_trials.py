"""least_row, trial_of, tried, trials, cover_wrong, idle, less: points 40 to 43."""

import copy
import unittest

from deepstands.charts import chart_wrong
from deepstands.errors import Beyond, Endless, NoChart, NoGoal, NoHappening, TooGreat
from deepstands.reach import reach
from deepstands.sayings import settled
from deepstands.texts import printed, read_chart
from deepstands.trials import cover_wrong, idle, least_row, less, trial_of, trials, tried

from drawn import Drawn
from helpers import chart, one, stand
from slow import idle_of

# Of the gate's moves the third one fits nowhere, that of jam is never chosen; jam and stuck are come to by nothing.
GATE = read_chart([
    "fact n 0 2 0", "on coin", "on push",
    "one gate",
    "  leaf shut",
    "    go on coin do set n n + 1, say paid n to free",
    "    go on push do say no n",
    "    go on push if 3 < n to jam",
    "  one free",
    "    go on push to shut",
    "    go after 2 do raise push",
    "    leaf calm",
    "      go on coin do say kept n to glad",
    "    leaf glad",
    "    back last",
    "  leaf jam",
    "    go on push to shut",
    "  end stuck",
])
GOALS = [
    ("stand", "shut"), ("move", "shut", 0), ("move", "shut", 1), ("move", "shut", 2), ("stand", "free"),
    ("move", "free", 0), ("move", "free", 1), ("stand", "calm"), ("move", "calm", 0), ("stand", "glad"), ("stand", "jam"),
    ("move", "jam", 0), ("stand", "stuck"),
]
LEAST = [
    [], ["coin"], ["push"], None, ["coin"], ["coin", "push"], ["coin", "tick", "tick"], ["coin"], ["coin", "coin"],
    ["coin", "coin"], None, None, None,
]
SHUT = ("gate", "shut")
FREE = ("gate", "free", "calm")
REFUSING = read_chart(["fact n 0 1 0", "on a", "on b", "one r", "  leaf x", "    go on a do set n 2 to y",
                       "    go on b do raise b", "  leaf y"])


class Refusing(unittest.TestCase):
    def refused(self, error, ask, *args, **more):
        with self.assertRaises(error) as caught:
            ask(*args, **more)
        return caught.exception


class TestLeastRow(Refusing):
    def test_goals_in_order(self):
        self.assertEqual([goal for goal, _ in trials(GATE)[1]], GOALS)
        self.assertEqual([least_row(GATE, goal) for goal in GOALS], LEAST)

    def test_what_the_begin_comes_to(self):
        told = read_chart(["on a", "one r", "  go on a", "  one p", "    go done to q", "    end e", "  one q",
                           "    leaf y", "      go on a to r1", "    leaf r1", "    deep d"])
        self.assertEqual(least_row(told, ("move", "p", 0)), [])
        self.assertEqual(least_row(told, ("stand", "q")), [])
        self.assertEqual(least_row(told, ("move", "r", 0)), ["a", "a"])
        self.assertEqual(least_row(told, ("stand", "r1")), ["a"])
        # p is left before the begin is done.
        self.assertIsNone(least_row(told, ("stand", "p")))
        self.assertIsNone(least_row(told, ("stand", "e")))

    def test_what_is_refused_comes_to_nothing(self):
        self.assertIsNone(least_row(REFUSING, ("stand", "y")))
        self.assertIsNone(least_row(REFUSING, ("move", "x", 0)))
        self.assertIsNone(least_row(REFUSING, ("move", "x", 1)))
        self.assertEqual(least_row(REFUSING, ("stand", "x")), [])

    def test_no_goals(self):
        for thing in (None, True, 0, "shut", (), ("stand",), ("stand", "gate"), ("stand", "last"), ("stand", "zz"),
                      ("stand", "n"), ("stand", None), ("stand", ["shut"]), ["stand", "shut"], ("stand", "shut", 0),
                      ("move", "shut"), ("move", "shut", 3), ("move", "shut", -1), ("move", "shut", True),
                      ("move", "shut", False), ("move", "shut", None), ("move", "shut", "0"), ("move", "zz", 0),
                      ("move", "gate", 0), ("move", "last", 0), ("move", ["shut"], 0), ("move", "shut", 0, 0),
                      ("zz", "shut"), (None, "shut"), ("stand", ("shut",))):
            self.refused(NoGoal, least_row, GATE, thing)

    def test_no_goal_is_behind_all_else(self):
        beyond = chart(one("r", stand("x", into=[("set", "a", ("num", 10))])))
        self.assertEqual(self.refused(NoChart, least_row, None, None, most=1).wrong, ("chart",))
        self.assertEqual(self.refused(Beyond, least_row, beyond, None, most=1).stand, "x")
        self.assertEqual(self.refused(TooGreat, least_row, GATE, None, most=1).most, 1)
        self.refused(TooGreat, least_row, GATE, ("stand", "shut"), most=len(reach(GATE)[0]) - 1)
        self.assertEqual(least_row(most=len(reach(GATE)[0]), goal=("stand", "shut"), chart=GATE), [])

    def test_rows_that_are_changed(self):
        least_row(GATE, GOALS[1]).append("x")
        least_row(GATE, GOALS[0]).append("x")
        self.assertEqual([least_row(GATE, goal) for goal in GOALS[:2]], LEAST[:2])


class TestTrials(Refusing):
    def test_a_trial(self):
        row = ["coin", "push", "coin", "push", "coin", "tick", "push"]
        told = trial_of(GATE, row)
        self.assertEqual(told, (row, [
            ("told", [], SHUT), ("told", [("paid", 1)], FREE), ("told", [], SHUT), ("told", [("paid", 2)], FREE),
            ("told", [], SHUT), ("refused", "Beyond"), ("told", [], SHUT), ("told", [("no", 2)], SHUT),
        ]))
        self.assertIsNot(told[0], row)
        self.assertIsNone(tried(GATE, told))
        self.assertEqual(trial_of(GATE, []), ([], [("told", [], SHUT)]))
        self.assertEqual(trial_of(REFUSING, ["b", "a"])[1][1:], [("refused", "Endless"), ("refused", "Beyond")])

    def test_a_trial_that_is_changed(self):
        row = ["coin"]
        told = trial_of(GATE, row)
        kept = copy.deepcopy(told)
        row.append("push")
        self.assertEqual(told, kept)
        told[0].append("x")
        told[1][0][1].append("x")
        told[1].append("x")
        self.assertEqual(trial_of(GATE, ["coin"]), kept)

    def test_rows_with_what_is_no_happening(self):
        for thing in ("zz", None, True, 0, ["coin"], ("tick",), "shut", "", ("on", "coin")):
            self.assertEqual(self.refused(NoHappening, trial_of, GATE, ["coin", thing, "yy"]).what, thing)
        beyond = chart(one("r", stand("x", into=[("set", "a", ("num", 10))])))
        self.refused(NoChart, trial_of, None, ["zz"])
        self.refused(Beyond, trial_of, beyond, ["zz"])
        thing = ["x"]
        error = self.refused(NoHappening, trial_of, GATE, [thing])
        thing.append("y")
        self.assertEqual(error.what, ["x"])

    def test_what_doesnt_agree(self):
        row, told = trial_of(GATE, ["coin", "tick", "coin", "push"])
        for k, change, word in (
            (0, ("refused", "Beyond"), "told"), (0, ("refused", "zz"), "told"), (0, ("told", [("s", 0)], SHUT), "said"),
            (0, ("told", [], FREE), "stood"), (1, ("told", [], FREE), "said"), (1, ("told", [("paid", 2)], FREE), "said"),
            (1, ("told", [("paid", 1)] * 2, FREE), "said"), (1, ("told", [], SHUT), "said"),
            (1, ("told", [("paid", 1)], SHUT), "stood"), (1, ("told", [("paid", 1)], ("gate", "calm", "free")), "stood"),
            (4, ("told", [], ()), "stood"), (4, ("refused", "Endless"), "told"),
            (1, ("told", [("paid", True)], FREE), "said"),
        ):
            self.assertEqual(tried(GATE, (row, told[:k] + [change] + told[k + 1:])), (k, word), change)
        self.assertEqual(tried(GATE, (row, [told[0], told[2], told[1]] + told[3:])), (1, "said"))
        # Nothing is done by what is no happening.
        self.assertEqual(tried(GATE, (row[:2] + ["zz"], told[:3] + [told[1]])), (3, "told"))
        row, told = trial_of(REFUSING, ["a", "b"])
        self.assertEqual(tried(REFUSING, (row, [told[0], told[2], told[1]])), (1, "told"))
        self.assertEqual(tried(REFUSING, (row, [told[0], ("told", [], ("r", "y")), told[2]])), (1, "told"))
        self.assertEqual(tried(REFUSING, (row, [told[0], told[1], ("refused", "zz")])), (2, "told"))

    def test_of_another_chart(self):
        turned = (GATE[0], ("push", "coin"), GATE[2])
        for row in (["coin", "tick", "push"], [], ["push", "push"]):
            self.assertEqual(trial_of(turned, row), trial_of(GATE, row))
            self.assertIsNone(tried(turned, trial_of(GATE, row)))
        text = printed(GATE)
        text[0] = "fact n 0 1 0"
        told = trial_of(GATE, ["coin", "push", "coin"])
        self.assertEqual(tried(read_chart(text), told), (3, "told"))
        self.assertEqual(tried(GATE, trial_of(read_chart(text), ["coin", "push", "coin"])), (3, "told"))

    def test_a_begin_that_is_refused(self):
        beyond = chart(one("r", stand("x", into=[("set", "a", ("num", 10))])))
        for told in ([("refused", "Beyond")], [("told", [], ("r", "x"))]):
            self.assertEqual(self.refused(Beyond, tried, beyond, ([], told)).stand, "x")
        self.refused(NoChart, tried, None, ([], []))

    def test_arguments(self):
        told = trial_of(row=["coin"], chart=GATE)
        self.assertIsNone(tried(trial=told, chart=GATE))


class TestCovers(Refusing):
    def setUp(self):
        self.trials, self.cover = trials(GATE)

    def test_the_cover(self):
        self.assertIsNone(cover_wrong(GATE, self.trials, self.cover))
        rows = [row for row, _ in self.trials]
        self.assertEqual(sorted(rows), [["coin", "coin"], ["coin", "push"], ["coin", "tick", "tick"], ["push"]])
        for (_, paper), least in zip(self.cover, LEAST):
            if least is None:
                self.assertEqual(paper, ("none", reach(GATE)[0]))
            else:
                self.assertEqual((paper[0], paper[2]), ("by", len(least)))
                self.assertEqual(rows[paper[1]][:paper[2]], least)

    def test_one_trial_alone(self):
        told = read_chart(["on a", "one r", "  leaf x"])
        self.assertEqual(trials(told), ([([], [("told", [], ("r", "x"))])], [(("stand", "x"), ("by", 0, 0))]))

    def test_too_great(self):
        many = len(reach(GATE)[0])
        self.assertEqual(trials(GATE, most=many), (self.trials, self.cover))
        for ask in (trials, idle, less):
            self.assertEqual(self.refused(TooGreat, ask, GATE, most=many - 1).most, many - 1)
            ask(most=many, chart=GATE)
            self.refused(NoChart, ask, None, most=1)
            self.refused(Endless, ask, chart(one("r", stand("x", into=[("raise", "h")], moves=[
                (("on", "h"), ("yes",), (("raise", "h"),), ())]))), most=1)

    def test_lists_that_are_changed(self):
        lists = [paper[1] for _, paper in self.cover if paper[0] == "none"]
        self.assertGreater(len(lists), 1)
        lists[0].append("spoiled")
        self.assertEqual(lists[1], reach(GATE)[0])
        self.trials[0][0].append("spoiled")
        self.trials.append("spoiled")
        self.cover.append("spoiled")
        told = trials(GATE)
        self.assertIsNone(cover_wrong(GATE, *told))

    def wrong(self, wanted, some=None, cover=None):
        some = self.trials if some is None else some
        told = cover_wrong(GATE, some, self.cover if cover is None else cover)
        self.assertEqual(told, wanted)
        self.assertEqual([type(part) for part in told or ()], [str, int][:len(wanted or ())])

    def with_paper(self, k, paper):
        return self.cover[:k] + [(self.cover[k][0], paper)] + self.cover[k + 1:]

    def test_trials_that_are_wrong(self):
        for some in (None, (), tuple(self.trials), "x", 1):
            self.assertEqual(cover_wrong(GATE, some, self.cover), ("trials", 0))
        first, second = self.trials[0], self.trials[1]
        for trial in (None, (), first[:1], list(first), first + first[:1], (tuple(first[0]), first[1]),
                      (first[0], tuple(first[1])), (first[0], None), (None, first[1]), (first[0], first[1][:-1]),
                      (first[0], first[1] + first[1][:1]), (first[0] + ["zz"], first[1]), (first[0] + [None], first[1]),
                      (["coin", ["coin"]], first[1]), (second[0], first[1]), (first[0], []), (first[0], [None, None, None]),
                      (first[0], [list(x) for x in first[1]])):
            self.wrong(("trials", 0), [trial] + self.trials[1:])
            self.wrong(("trials", 2), self.trials[:2] + [trial] + self.trials[3:])
            self.wrong(("trials", 0), [trial] + self.trials[1:], cover=[None])
        truth = (["coin"], [("told", [], SHUT), ("told", [("paid", True)], FREE)])
        self.wrong(("trials", 4), self.trials + [truth])
        other = (["coin"], [("told", [], SHUT), ("told", [("paid", 1)], SHUT)])
        self.wrong(("trials", 4), self.trials + [other])
        # More trials than are needed, twice the same, rows with refused ones in them: all right.
        more = [trial_of(GATE, row) for row in ([], ["coin", "push"] * 3, ["coin", "push"] * 2 + ["coin", "coin"])]
        self.wrong(None, self.trials + more + more)

    def test_goals_that_are_wrong(self):
        first = self.cover[0]
        for cover in (None, (), tuple(self.cover), "x", [], self.cover[1:], self.cover[:-1], self.cover + self.cover[:1],
                      self.cover[::-1], [None] + self.cover[1:], [first[:1]] + self.cover[1:],
                      [list(first)] + self.cover[1:], [first + first[:1]] + self.cover[1:],
                      [(list(first[0]), first[1])] + self.cover[1:], [self.cover[1]] + self.cover[1:],
                      [(None, first[1])] + self.cover[1:], self.cover[:-1] + [None]):
            self.assertEqual(cover_wrong(GATE, self.trials, cover), ("goals",))
        truth = (("move", "shut", False), self.cover[1][1])
        self.wrong(("goals",), cover=self.cover[:1] + [truth] + self.cover[2:])

    def test_by_that_is_wrong(self):
        _, t, k = self.cover[1][1]
        for paper in (None, (), "by", ("by",), ("by", t), ("by", t, k, k), ["by", t, k], ("zz", t, k), (None, t, k),
                      ("by", None, k), ("by", t, None), ("by", True, k), ("by", t, True), ("by", -1, k), ("by", 4, k),
                      ("by", t, -1), ("by", t, 9), ("by", t, 0), ("by", str(t), k), ("zz", []), (None, []), ("none",),
                      ("none", [], []), ["none", []], (["none"], [])):
            self.wrong(("by", 1), cover=self.with_paper(1, paper))
        self.wrong(("by", 3), cover=self.with_paper(3, ("by", 0, 0)))
        self.wrong(("by", 0), cover=self.with_paper(0, ("by", False, 0)))
        self.wrong(("by", 0), cover=self.with_paper(0, ("by", 0, False)))
        # The first wrong paper by their order, each by its own word.
        self.wrong(("by", 1), cover=self.with_paper(1, None)[:3] + self.with_paper(3, None)[3:])
        self.wrong(("none", 1), cover=self.with_paper(1, ("none", None))[:3] + self.with_paper(3, None)[3:])

    def test_by_a_longer_row_and_by_refused_ones(self):
        rows = [["push", "coin", "push", "coin", "push", "coin", "push"], ["tick", "coin"]]
        some = self.trials + [trial_of(GATE, row) for row in rows]
        self.wrong(None, some, self.with_paper(1, ("by", 4, 2)))
        self.wrong(None, some, self.with_paper(1, ("by", 5, 2)))
        self.wrong(None, some, self.with_paper(0, ("by", 4, 5)))
        # The third coin is refused: it comes to nothing, not even to what is stood in; what is behind it does.
        self.wrong(("by", 0), some, self.with_paper(0, ("by", 4, 6)))
        self.wrong(("by", 1), some, self.with_paper(1, ("by", 4, 6)))
        self.wrong(None, some, self.with_paper(0, ("by", 4, 7)))
        self.wrong(None, some, self.with_paper(2, ("by", 4, 7)))

    def test_none_that_is_wrong(self):
        standings = reach(GATE)[0]
        strange = (("gate", "jam"), (0,), (), ())
        for paper in (("none", None), ("none", tuple(standings)), ("none", []), ("none", standings[1:]),
                      ("none", standings[:-1]), ("none", standings + standings[:1]), ("none", standings + [None]),
                      ("none", standings + [list(standings[0])]), ("none", standings + [strange]), ("none", "x"),
                      ("none", [(("gate", "shut"), (False,), (), ())] + standings[1:])):
            self.wrong(("none", 10), cover=self.with_paper(10, paper))
        # From the strange one push leads to shut: that isn't jam, but a move of it is chosen, and coin stays there.
        self.wrong(("none", 11), cover=self.with_paper(11, ("none", standings + [strange])))
        self.wrong(None, cover=self.with_paper(12, ("none", standings + [strange])))
        self.wrong(None, cover=self.with_paper(12, ("none", standings[::-1])))
        # The begin comes to it, or a happening does.
        self.wrong(("none", 0), cover=self.with_paper(0, ("none", standings)))
        self.wrong(("none", 1), cover=self.with_paper(1, ("none", standings)))
        self.wrong(("none", 4), cover=self.with_paper(4, ("none", standings)))

    def test_a_begin_that_comes_to_it_alone(self):
        told = read_chart(["one r", "  one p", "    go done to q", "    end e", "  leaf q"])
        some, cover = trials(told)
        self.assertEqual(cover[1], (("move", "p", 0), ("by", 0, 0)))
        self.assertEqual(cover[2], (("stand", "e"), ("none", [(("r", "q"), (), (), ())])))
        self.assertIsNone(cover_wrong(told, some, cover))
        cover[1] = (cover[1][0], ("none", [(("r", "q"), (), (), ())]))
        self.assertEqual(cover_wrong(told, some, cover), ("none", 1))

    def test_what_is_refused_and_handed_in(self):
        beyond = chart(one("r", stand("x", into=[("set", "a", ("num", 10))])))
        self.refused(NoChart, cover_wrong, None, None, None)
        self.refused(Beyond, cover_wrong, beyond, None, None)
        some, cover = copy.deepcopy((self.trials, self.cover))
        cover_wrong(chart=GATE, some=some, cover=cover)
        self.assertEqual((some, cover), (self.trials, self.cover))


class TestIdle(Refusing):
    def test_idle(self):
        self.assertEqual(idle(GATE), (["jam", "stuck"], [("shut", 2), ("jam", 0)], [("shut", 2), ("jam", 0)]))
        self.assertEqual(idle(REFUSING), (["y"], [], []))

    def test_of_a_refused_step_all_up_to_the_refusal(self):
        told = read_chart(["fact n 0 1 0", "on a", "on b", "on c", "one r", "  leaf x", "    go on a do raise b, raise c",
                           "    go on b do set n 2", "    go on c do say s 1", "    go on b do say never 1"])
        # b is refused as it comes behind a, and by itself; c comes by itself.
        self.assertEqual(idle(told), ([], [("x", 3)], []))
        told = read_chart(["fact n 0 1 0", "on a", "one r", "  leaf x", "    go on a do set n 2, raise a to y",
                           "    go on a", "  leaf y", "    go on a"])
        self.assertEqual(idle(told), (["y"], [("x", 1), ("y", 0)], [("y", 0)]))

    def test_of_an_endless_one_not_the_fifty_first(self):
        """The third move fits by the last inner what behind b alone, if that is taken."""
        rows = ["fact n 0 99 0", "on a", "on b", "one r", "  leaf x", "    go on a do raise b", "    go on b if n < {} do "
                "set n n + 1, raise b", "    go on b if n = {} do raise b"]
        for last, taken in ((50, True), (51, False)):
            told = read_chart([row.format(last) for row in rows])
            self.assertEqual(idle(told), ([], [], []) if taken else ([], [("x", 2)], [("x", 2)]), last)

    def test_at_the_begin(self):
        told = read_chart(["on a", "one r", "  into raise a", "  leaf x", "    go on a to y", "  leaf y"])
        self.assertEqual(idle(told), (["x"], [], []))
        self.assertEqual(less(told), told)

    def test_fits_but_is_never_chosen(self):
        told = read_chart(["on a", "one r", "  go on a", "  leaf x", "    go on a", "    go on a if yes", "    go on a if "
                           "in y", "  leaf y"])
        self.assertEqual(idle(told), (["y"], [("r", 0), ("x", 1), ("x", 2)], [("x", 2)]))

    def test_less(self):
        told = less(GATE)
        self.assertIsNone(chart_wrong(told))
        self.assertEqual(read_chart(printed(told)), told)
        self.assertEqual(printed(told), [row for row in printed(GATE) if "3 < n" not in row][:-2] + ["  end stuck"])
        self.assertEqual(idle(told), (["jam", "stuck"], [], []))
        self.assertEqual(less(told), told)
        # What bars another one stays.
        barred = read_chart(["on a", "one r", "  go on a to y", "  leaf x", "    go on a", "  leaf y", "    go on a if in x"])
        self.assertEqual(printed(less(barred)), printed(barred)[:-1])


class TestDrawn(Refusing):
    def test_least_rows(self):
        """The first of all rows up to a length that comes to a goal, the shorter ones first."""
        longest, found = 4, 0
        for seed in range(60):
            drawn = Drawn(seed)
            rows = list(drawn.slow.rows(longest))
            for goal in drawn.slow.goals():
                wanted = next((row for row in rows if drawn.slow.comes_to(goal, row)), None)
                told = least_row(drawn.chart, goal)
                if told is None or len(told) <= longest:
                    self.assertEqual(told, wanted)
                    found += bool(told)
                else:
                    self.assertIsNone(wanted)
        self.assertGreater(found, 60)

    def test_trials_and_covers(self):
        for seed in range(60):
            drawn = Drawn(seed)
            some, cover = trials(drawn.chart)
            self.assertIsNone(cover_wrong(drawn.chart, some, cover))
            self.assertEqual([goal for goal, _ in cover], drawn.slow.goals())
            rows = [row for row, _ in some]
            for t, trial in enumerate(some):
                self.assertEqual(trial_of(drawn.chart, trial[0]), trial)
                self.assertIsNone(tried(drawn.chart, trial))
                self.assertFalse([row for k, row in enumerate(rows) if k != t and row[:len(rows[t])] == rows[t]])
                self.assertTrue([paper for _, paper in cover if paper == ("by", t, len(rows[t]))])
            for goal, paper in cover:
                if paper[0] == "by":
                    self.assertTrue(drawn.slow.comes_to(goal, rows[paper[1]][:paper[2]]))
                    self.assertEqual(len(least_row(drawn.chart, goal)), paper[2])
                else:
                    self.assertEqual(paper, ("none", drawn.standings))
                    self.assertIsNone(least_row(drawn.chart, goal))
                if goal[0] == "stand":
                    saying = settled(drawn.chart, ("never", ("in", goal[1])))
                    self.assertEqual(saying[0] == "broken", paper[0] == "by")

    def test_told_of_rows(self):
        for seed in range(60):
            drawn = Drawn(seed)
            row = drawn.row(12)
            told, way = trial_of(drawn.chart, row)[1], drawn.slow.way(row)
            self.assertEqual(told[0], ("told", drawn.slow.begin()[1], way[0][0]))
            for k, happening in enumerate(row):
                done = drawn.slow.go(way[k], happening)
                wanted = done if done[0] == "refused" else ("told", done[2], done[1][0])
                self.assertEqual(told[k + 1], wanted)

    def test_idle_and_less(self):
        for seed in range(60):
            drawn = Drawn(seed)
            self.assertEqual(idle(drawn.chart), idle_of(drawn.chart, drawn.standings))
            told = less(drawn.chart)
            self.assertIsNone(chart_wrong(told))
            self.assertEqual(idle(told)[2], [])
            self.assertEqual(len(reach(told)[0]) > 0, True)
            for row in (drawn.row(12), drawn.row(12)):
                self.assertIsNone(tried(told, trial_of(drawn.chart, row)))


if __name__ == "__main__":
    unittest.main()
