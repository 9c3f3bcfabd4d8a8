"""Points 4 and 12 to 18 over many charts: step, trace, a Run and a Coded tell the same, and what plain.py tells."""

import random
import unittest

from deepstands.charts import chart_wrong, room_of
from deepstands.code import Coded, code, code_text, read_code
from deepstands.errors import Beyond, Endless
from deepstands.runs import Run
from deepstands.steps import chosen, fits, standing_wrong, start, step, trace, trace_start

from plain import Plain, Refused, Wild

MANY = 160


def told(ask, *args):
    """What comes of a question, a refusal by its word and its fields."""
    try:
        return ask(*args)
    except Refused as error:
        return ("refused", *error.args)
    except Beyond as error:
        return ("refused", "Beyond", error.fact, error.stand)
    except Endless:
        return ("refused", "Endless")


class TestAgree(unittest.TestCase):
    def each(self):
        for seed in range(MANY):
            chart = Wild(seed).chart()
            with self.subTest(seed=seed):
                yield chart, Plain(chart), random.Random(seed)

    def whats(self, plain):
        ones = [name for name in plain.order if plain.sort(name) == "one"]
        return [("on", happening) for happening in plain.happenings] + [("tick",)] + [("done", name) for name in ones]

    def test_the_charts_are_some(self):
        for chart, plain, _ in self.each():
            self.assertIsNone(chart_wrong(chart))
            for name in plain.order:
                for k, move in enumerate(plain.stand[name][5]):
                    self.assertEqual(room_of(chart, name, k), plain.room(name, k) if move[3] else None)

    def test_begins(self):
        refused = 0
        for chart, plain, _ in self.each():
            wanted = told(plain.start)
            self.assertEqual(told(start, chart), wanted)
            if wanted[0] != "refused":
                self.assertEqual(trace_start(chart), plain.told)
                self.assertIsNone(standing_wrong(chart, wanted[0]))
            else:
                for ask in (trace_start, Run):
                    self.assertEqual(told(ask, chart), wanted)
                self.assertEqual(told(Coded, code(chart)), wanted)
                refused += 1
        self.assertGreater(refused, 10)
        self.assertLess(refused, MANY // 2)

    def test_any_standing(self):
        """Also such as no run comes to."""
        several = 0
        for chart, plain, by in self.each():
            for _ in range(3):
                standing = plain.some_standing(by)
                self.assertIsNone(standing_wrong(chart, standing))
                for what in self.whats(plain):
                    plain.load(standing)
                    self.assertEqual(fits(chart, standing, what), plain.fits(what))
                    self.assertEqual(chosen(chart, standing, what), plain.chosen(what))
                for happening in (*chart[1], "tick"):
                    wanted = told(plain.step, standing, happening)
                    self.assertEqual(told(step, chart, standing, happening), wanted)
                    if wanted[0] == "refused":
                        self.assertEqual(told(trace, chart, standing, happening), wanted)
                    else:
                        self.assertIsNone(standing_wrong(chart, wanted[0]))
                        self.assertEqual(trace(chart, standing, happening), plain.told)
                        several += len(plain.told) > 2
        self.assertGreater(several, 20)

    def test_rows_of_happenings(self):
        refused = 0
        for chart, plain, by in self.each():
            begin = told(start, chart)
            if begin[0] == "refused":
                continue
            standing, said = begin[0], [begin[1]]
            run, made = Run(chart), Coded(read_code(code_text(code(chart))))
            for _ in range(25):
                happening = by.choice(chart[1] + ("tick",))
                wanted = told(plain.step, standing, happening)
                self.assertEqual(told(step, chart, standing, happening), wanted)
                if wanted[0] == "refused":
                    refused += 1
                    self.assertEqual(told(run.tell, happening), wanted)
                    self.assertEqual(told(made.tell, happening), wanted)
                else:
                    standing = wanted[0]
                    said.append(wanted[1])
                    self.assertEqual(run.tell(happening), wanted[1])
                    self.assertEqual(made.tell(happening), wanted[1])
                for one in (run, made):
                    self.assertEqual((one.standing(), len(one)), (standing, len(said) - 1))
            self.assertEqual((run.said(), made.said()), (said, said))
            self.assertTrue(run == run.copy())
            self.assertTrue(made == made.copy())
        self.assertGreater(refused, 100)


if __name__ == "__main__":
    unittest.main()
