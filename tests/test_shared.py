"""What a run, or all who go through many standings, found out for one of them is there for others: just where it is the
same. A step, which looks at its standing alone, and plain.py tell what it must be."""

import random
import textwrap
import unittest

from deepstands.code import Coded, code
from deepstands.errors import Beyond
from deepstands.reach import reach
from deepstands.runs import Run
from deepstands.sayings import judged, settled
from deepstands.steps import fits, standing_wrong, start, step, trace
from deepstands.texts import read_chart
from deepstands.trials import idle, trial_of, tried

from plain import Plain, Wild
from test_agree import told


def charted(text):
    return read_chart(textwrap.dedent(text).strip("\n").split("\n"))


class TestShared(unittest.TestCase):
    def goes_alike(self, chart, row):
        """A Run, a Coded and steps tell the same, and what plain.py tells; told is the last standing."""
        plain = Plain(chart)
        runs = [Run(chart), Coded(code(chart))]
        standing, said = plain.start()
        self.assertEqual([run.said() for run in runs], [[said]] * 2)
        for happening in row:
            wanted = told(plain.step, standing, happening)
            self.assertEqual(told(step, chart, standing, happening), wanted)
            for run in runs:
                self.assertEqual(told(run.tell, happening), wanted if wanted[0] == "refused" else wanted[1])
            if wanted[0] != "refused":
                standing = wanted[0]
            self.assertEqual([run.standing() for run in runs], [standing] * 2)
        return standing

    def reaches_alike(self, chart):
        """What reach tells of each standing is what a step tells of it."""
        standings, steps = reach(chart)
        for standing, row in zip(standings, steps):
            self.assertIsNone(standing_wrong(chart, standing))
            for happening, cell in zip((*chart[1], "tick"), row):
                wanted = told(step, chart, standing, happening)
                if wanted[0] == "refused":
                    self.assertEqual(cell, ("refused", wanted[1]))
                else:
                    went = [move for _, chosen, _, _ in trace(chart, standing, happening) for move in chosen]
                    self.assertEqual(cell[:3], ("told", wanted[1], went))
                    self.assertEqual(standings[cell[3]], wanted[0])
        return standings

    def test_what_is_kept_stays_where_nothing_is_left(self):
        """Of moves without goals several are chosen at once, whatever markers keep by then."""
        chart = charted("""
            on h
            on k
            on off
            on in1
            all r
              one m
                one o
                  go on off to away
                  deep d
                  one p
                    back b
                    leaf x
                      go on k to y
                    leaf y
                      go on k to x
                leaf away
                  go on in1 to d
              one q
                leaf s
                  go on h do say s 1
              one t
                leaf u
                  go on h do say u 2
                  go on k
        """)
        row = ["h", "off", "h", "in1", "h", "k", "h", "off", "h", "in1", "h", "off", "h", "k", "in1", "k", "off", "h"]
        standing = self.goes_alike(chart, row)
        self.assertEqual(standing[3], (("d", ("p", "x")), ("b", ("x",))))
        self.assertEqual(self.goes_alike(chart, row[:-3])[3], (("d", ("p", "y")), ("b", ("y",))))
        # It is first asked for when something is kept.
        self.assertEqual(self.goes_alike(chart, row[1:]), standing)
        self.assertEqual(len(self.reaches_alike(chart)), 8)

    def test_what_a_guard_asks_for_matters(self):
        """A stand in another part, a fact that the deeds don't name, both."""
        chart = charted("""
            fact n 0 3 0
            fact m 0 1 0
            on a
            on b
            on c
            all r
              one p
                leaf x
                  go on a if in z do say s 1 to y
                  go on a if n = 2 and not in z or m = 1 do say s n
                leaf y
                  go on a if not ( in z or n < 2 ) to x
                  go on a do say s m
              one q
                leaf z
                  go on b to w
                leaf w
                  go on b if m = 1 to z
                  go on b do set m 1
              leaf v
                go on c if n < 3 do set n n + 1
                go on c do set n 0, set m 0
        """)
        self.assertEqual(len(self.reaches_alike(chart)), 32)
        by = random.Random(5)
        self.goes_alike(chart, [by.choice("abc") for _ in range(200)])

    def test_ages(self):
        """Each by itself, up to one more than its greatest n, from 0 on where it is entered."""
        chart = charted("""
            on a
            on b
            all r
              go after 99 do say r 1
              one p
                leaf x
                  go after 2 do say x 2
                  go after 4 if in z do say x 4
                  go on a to y
                leaf y
                  go after 98 do say y 98
                  go on a to x
              one q
                go after 3 to w
                leaf z
                  go on b to w
                leaf w
                  go after 1 to z
        """)
        by = random.Random(3)
        row = [by.choice(["tick"] * 9 + ["a", "b"]) for _ in range(150)] + ["a"] + ["tick"] * 120
        standing = self.goes_alike(chart, row)
        self.assertEqual(dict(standing[2])["r"], 100)
        self.assertGreater(dict(standing[2])["y"], 97)

    def test_facts_of_all_spans(self):
        chart = charted("""
            fact one1 5 5 5
            fact low1 - 999999999 - 999999999 - 999999999
            fact wide - 999999999 999999999 0
            fact two 0 1 1
            fact neg - 8 - 1 - 3
            on a
            on b
            on c
            on d
            on e
            one r
              leaf x
                go on a do set wide wide - 999999999, say s wide
                go on b do set wide wide + 999999998 + 1, say s wide + 1
                go on c do set one1 5, set low1 low1, set two 1 - two, say s one1, say s low1
                go on d if two = 1 do set one1 one1 + two
                go on d do set neg neg + 1, say s neg - wide
                go on e do set neg neg - 1
        """)
        self.goes_alike(chart, ["a", "a", "b", "b", "b", "c", "d", "d", "d", "d", "e", "c", "d", "e", "e"] * 2)
        with self.assertRaises(Beyond) as caught:
            run = Run(chart)
            run.tell("d")
        self.assertEqual((caught.exception.fact, caught.exception.stand), ("one1", "x"))
        self.assertEqual(run.standing(), start(chart)[0])
        self.assertEqual(len(self.reaches_alike(chart)), 3 * 2 * 8)

    def test_outs_hang_on_what_is_left(self):
        chart = charted("""
            fact n 0 9 0
            on a
            on b
            on c
            one r
              go on c to e
              all p
                one q
                  leaf x
                    out say x n
                    go on a to y
                  leaf y
                    into set n n + 1
                    out say y n, raise b
                    go on a to x
                leaf z
                  out say z n
                  go on b do say z 7
              leaf e
                go on c to p
        """)
        self.goes_alike(chart, ["c", "c", "a", "c", "b", "c", "a", "a", "b", "a", "c", "a", "c", "c", "a"])
        self.assertEqual(step(chart, start(chart)[0], "c")[1], [("z", 0), ("x", 0)])
        self.reaches_alike(charted("""
            on a
            on b
            one r
              all p
                one q
                  leaf x
                    out say x 1
                    go on a to y
                  leaf y
                    out say y 1
                    go on a to x
                one s
                  leaf u
                    go on b to w
                  leaf w
                    go on b to e
              leaf e
                go on b to p
        """))

    def test_ends_together(self):
        """A done hangs on what is stood in in its one alone, and comes once for each end that is entered."""
        chart = charted("""
            fact n 0 9 0
            on a
            on b
            all r
              one p
                go done if n < 2 do set n n + 1, say p n to x
                leaf x
                  go on a to f
                end f
                  go on b to x
              one q
                go done do say q n
                leaf y
                  go on a to g
                end g
                  go on b to y
        """)
        self.goes_alike(chart, ["a", "b", "a", "a", "b", "a", "b", "b", "a"])
        self.reaches_alike(chart)
        standing = Run(chart).standing()
        self.assertEqual(fits(chart, standing, ("done", "p")), [])

    def test_drawn(self):
        """Long rows, by which the same is come to again and again."""
        for seed in range(60):
            chart = Wild(seed + 1000).chart()
            if told(start, chart)[0] == "refused":
                continue
            by = random.Random(seed)
            row = [by.choice([*chart[1], "tick"]) for _ in range(60)]
            with self.subTest(seed=seed):
                self.goes_alike(chart, row)
                self.assertIsNone(tried(chart, trial_of(chart, row)))

    def test_marks_of_what_fits(self):
        """A move that fits at one standing alone, of many that are alike but for that, is found."""
        chart = charted("""
            fact n 0 3 0
            on a
            on b
            all r
              one p
                leaf x
                  go on a do set n 1
                  go on a if n = 3 and in w
                  go on a if n = 3 and in z and n < 3
              one q
                leaf z
                  go on b to w
                leaf w
                  go on b if n < 3 do set n n + 1 to z
        """)
        self.assertEqual(idle(chart), ([], [("x", 1), ("x", 2)], [("x", 2)]))

    def test_sayings_at_standings_that_are_alike(self):
        chart = charted("""
            fact n 0 9 0
            on a
            on b
            all r
              one p
                leaf x
                  go on a to y
                leaf y
                  go on a to x
              leaf v
                go on b if n < 9 do set n n + 1
        """)
        for saying, row in (
            (("never", ("both", ("in", "y"), ("same", ("fact", "n"), ("num", 7)))), ["a"] + ["b"] * 7),
            (("behind", "b", ("below", ("num", 4), ("fact", "n")), ("below", ("fact", "n"), ("num", 6))), ["b"] * 6),
            (("before", ("in", "y"), ("same", ("fact", "n"), ("num", 2))), ["b", "b"]),
            (("within", ("same", ("fact", "n"), ("num", 1)), ("in", "y"), 1), ["b", "tick", "tick"]),
        ):
            paper = settled(chart, saying)
            self.assertEqual(sorted(paper[1]), sorted(row))
            self.assertEqual(paper[0], "broken")
            self.assertIsNone(judged(chart, saying, paper))


if __name__ == "__main__":
    unittest.main()
