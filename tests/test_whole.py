"""Point 4: whichever way a chart is asked, by a text, runs, code, all standings, papers, trials, tables, a workshop or a
desk, the answers are the same, happening by happening."""

import random
import unittest

from deepstands.alike import alike, alike_wrong, least_table, lots, table_wrong
from deepstands.charts import chart_wrong, names_of
from deepstands.code import Coded, code, code_text, read_code
from deepstands.desk import Desk
from deepstands.errors import Beyond, Endless, NoLead
from deepstands.leads import change_wrong, led
from deepstands.reach import reach
from deepstands.runs import Run
from deepstands.sayings import judged, settled
from deepstands.steps import fits, standing_wrong, start, step
from deepstands.texts import printed, read_chart
from deepstands.trials import cover_wrong, idle, less, trial_of, trials, tried
from deepstands.workshop import Workshop

from drawn import Drawn, begins
from plain import Wild
from test_settled import WORDS


def told(ask, *args):
    """What is told, or the word of a refusal."""
    try:
        return ask(*args)
    except (Beyond, Endless) as error:
        return error.__class__.__name__


def said_line(said):
    """What a desk answers to a line by which this is said."""
    return ", ".join(f"{name} {worth}" for name, worth in said) or "none"


class Ways:
    """All ways to go by a chart, happening by happening."""

    def __init__(self, chart):
        self.chart = chart
        self.run, self.made = Run(chart), Coded(read_code(code_text(code(chart))))
        self.shop, self.desk = Workshop(printed(chart)), Desk(printed(chart))
        self.standing, said = start(chart)
        self.said = [said]
        self.standings, self.steps = reach(chart)
        self.number = 0
        self.begun = [self.run.said()[0], self.made.said()[0], self.shop.start("a")]
        self.line = self.desk.say("start a")

    def tell(self, happening):
        """What each way tells, a desk apart."""
        happenings = self.chart[1] + ("tick",)
        answers = [told(self.run.tell, happening), told(self.made.tell, happening), told(self.shop.tell, "a", happening)]
        done = told(step, self.chart, self.standing, happening)
        if isinstance(done, str):
            answers.append(done)
        else:
            self.standing = done[0]
            self.said.append(done[1])
            answers.append(done[1])
        cell = self.steps[self.number][happenings.index(happening)]
        answers.append(cell[1])
        if cell[0] == "told":
            self.number = cell[3]
        return answers, told(self.desk.say, f"tell a {happening}")


class TestWhole(unittest.TestCase):
    def test_happening_by_happening(self):
        for seed in range(50):
            drawn = Drawn(seed)
            self.assertEqual(read_chart(printed(drawn.chart)), drawn.chart)
            ways = Ways(drawn.chart)
            self.assertEqual(ways.begun, ways.said * 3)
            self.assertEqual(ways.line, said_line(ways.said[0]))
            trial = trial_of(drawn.chart, drawn.row(20))
            said, rows = least_table(drawn.chart)
            lot = 0
            for happening, outcome in zip(trial[0], trial[1][1:]):
                answers, line = ways.tell(happening)
                self.assertEqual(answers, [outcome[1]] * 5)
                self.assertEqual(line, outcome[1] if outcome[0] == "refused" else said_line(outcome[1]))
                lot, tells = rows[lot][drawn.slow.happenings.index(happening)]
                self.assertEqual(tells if isinstance(tells, str) else list(tells), outcome[1])
                for standing in (ways.run.standing(), ways.made.standing(), ways.shop.standing("a"),
                                 ways.standings[ways.number]):
                    self.assertEqual(standing, ways.standing)
                self.assertIsNone(standing_wrong(drawn.chart, ways.standing))
                self.assertEqual(ways.desk.say("worths a").split(" "),
                                 [f"{fact[0]}={worth}" for fact, worth in zip(drawn.chart[0], ways.standing[1])])
                self.assertEqual(ways.desk.say(f"fits a {happening}"), " ".join(
                    f"{name}.{k}" for name, k in fits(drawn.chart, ways.standing, what_of(happening))) or "none")
            for way in (ways.run, ways.made):
                self.assertEqual(way.said(), ways.said)
            self.assertEqual(ways.shop.said("a"), ways.said)

    def test_charts_that_tell_the_same(self):
        """A chart, the one that its text tells, the one without what never fits: alike, with the same papers, trials and
        tables."""
        for seed in range(50):
            drawn = Drawn(seed)
            chart, by = drawn.chart, less(drawn.chart)
            self.assertIsNone(chart_wrong(by))
            paper = alike(chart, by)
            self.assertEqual(paper[0], "alike")
            self.assertIsNone(alike_wrong(chart, by, paper))
            self.assertEqual([len(lots(chart)), len(least_table(chart)[1])], [len(lots(by)), len(least_table(by)[1])])
            self.assertIsNone(table_wrong(by, least_table(chart)))
            for trial in trials(chart)[0]:
                self.assertIsNone(tried(by, trial))
            again = read_chart(printed(by))
            self.assertEqual(idle(again)[2], [])
            self.assertIsNone(cover_wrong(again, *trials(by)))

    def test_papers_trials_and_idle_agree(self):
        for seed in range(40):
            drawn = Drawn(seed)
            standings, steps = reach(drawn.chart)
            some, cover = trials(drawn.chart)
            missing = {goal for goal, paper in cover if paper[0] == "none"}
            for name in names_of(drawn.chart):
                if ("stand", name) in dict(cover):
                    paper = settled(drawn.chart, ("never", ("in", name)))
                    self.assertEqual(paper[0] == "holds", ("stand", name) in missing)
            self.assertEqual(idle(drawn.chart)[0], [goal[1] for goal, paper in cover if goal in missing and goal[0] == "stand"
                                                    and not any(goal[1] in x[0] for x in standings)])
            for at, happening in enumerate(drawn.slow.happenings):
                refused = any(row[at][0] == "refused" for row in steps)
                self.assertEqual(settled(drawn.chart, ("unrefused", happening))[0], "broken" if refused else "holds")
            for word in WORDS:
                saying = drawn.saying(word)
                paper = settled(drawn.chart, saying)
                self.assertIsNone(judged(drawn.chart, saying, paper))
                if paper[0] == "broken" and word != "within":
                    # Its row is one of a trial that the chart does.
                    trial = trial_of(drawn.chart, paper[1])
                    self.assertEqual(sum(done[0] == "refused" for done in trial[1]), word == "unrefused")

    def test_changes_under_runs(self):
        """A run that is led is one of the new chart: it goes on as that one does from there."""
        edited = 0
        for seed in range(200):
            drawn = Drawn(seed)
            by = random.Random(seed)
            other = Wild(by.randint(0, 10 ** 9)).chart()
            ways = Ways(drawn.chart)
            for happening in drawn.row():
                ways.tell(happening)
            names = {"n": "zz"}
            for old, new in zip(names_of(drawn.chart), names_of(other)):
                names[old] = new
            wrong = change_wrong(drawn.chart, other, ways.standing, names)
            if wrong is not None:
                with self.assertRaises(NoLead) as caught:
                    ways.shop.edit(printed(other), names=names)
                self.assertEqual((caught.exception.title, caught.exception.wrong), ("a", wrong))
                continue
            ways.shop.edit(printed(other), names=names)
            standing = led(drawn.chart, other, ways.standing, names)
            self.assertEqual(ways.shop.standing("a"), standing)
            for happening in (*other[1], "tick", *other[1]):
                done = told(step, other, standing, happening)
                heard = told(ways.shop.tell, "a", happening)
                self.assertEqual(heard, done if isinstance(done, str) else done[1])
                standing = standing if isinstance(done, str) else done[0]
                self.assertEqual(ways.shop.standing("a"), standing)
            while ways.shop.log()[-1][0] != "edit":
                ways.shop.back()
            ways.shop.back()
            self.assertEqual((ways.shop.standing("a"), ways.shop.said("a")), (ways.standing, ways.said))
            edited += 1
        self.assertGreater(edited, 5)

    def test_begins_that_are_refused(self):
        refused = 0
        for seed in range(60):
            chart = Wild(seed).chart()
            if begins(chart):
                continue
            refused += 1
            word = told(start, chart)
            row = [ask for ask in (Run, lambda c: Coded(code(c)), reach, trials, idle, less, lots, least_table,
                                   lambda c: alike(c, c), lambda c: settled(c, ("unsaid", "s")),
                                   lambda c: Workshop(printed(c)).start("a"), lambda c: Desk(printed(c)).say("start a"),
                                   lambda c: tried(c, ([], [])), lambda c: trial_of(c, []))]
            self.assertEqual([told(ask, chart) for ask in row], [word] * len(row))
        self.assertGreater(refused, 5)


def what_of(happening):
    return ("tick",) if happening == "tick" else ("on", happening)


if __name__ == "__main__":
    unittest.main()
