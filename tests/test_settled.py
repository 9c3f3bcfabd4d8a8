"""settled: points 20 to 22. Papers that it makes are judged by judged, and by judges.py."""

import unittest

from deepstands.errors import NoChart, TooGreat
from deepstands.reach import reach
from deepstands.sayings import judged, settled
from deepstands.texts import read_chart

from drawn import Drawn
from helpers import YES
from judges import Judge

WORDS = ("never", "unsaid", "unrefused", "behind", "before", "within", "can")

# n is counted up by a, and down by b; it can't be more than 3. Below 2 nothing is said.
COUNT = read_chart(["fact n 0 3 0", "on a", "on b", "one r", "  leaf x", "    go on a if 1 < n do say big n, set n n + 1",
                    "    go on a do set n n + 1", "    go on b if 0 < n do set n n - 1"])
# u and v lead to each other by a, and b from u to the trap w.
TRAP = read_chart(["on a", "on b", "one r", "  leaf u", "    go on a to v", "    go on b to w", "  leaf v",
                   "    go on a to u", "  leaf w"])
# A lamp that goes out with the third tick, and whose third tick is refused while it is stuck.
LAMP = read_chart(["fact n 0 1 0", "on a", "on b", "one r", "  leaf off", "    go on a to lit", "    go on b to stuck",
                   "  leaf lit", "    go after 3 to off", "  leaf stuck", "    go after 3 do set n 2 to off"])


def worth(n):
    return ("same", ("fact", "n"), ("num", n))


def standing(n):
    return (("r", "x"), (n,), (), ())


def at(name, age=None, n=None):
    return (("r", name), () if n is None else (n,), () if age is None else ((name, age),), ())


class TestSettled(unittest.TestCase):
    def broken(self, chart, saying, row):
        paper = settled(chart, saying)
        self.assertEqual(paper[:2], ("broken", row), saying)
        self.assertIsNone(judged(chart, saying, paper))
        return paper

    def holds(self, chart, saying, rows):
        paper = settled(chart, saying)
        self.assertEqual(paper, ("holds", rows), saying)
        self.assertEqual(repr(paper), repr(("holds", rows)))
        self.assertIsNone(judged(chart, saying, paper))

    def test_never(self):
        every = [standing(n) for n in range(4)]
        self.holds(COUNT, ("never", ("not", ("in", "x"))), every)
        self.broken(COUNT, ("never", worth(2)), ["a", "a"])
        self.broken(COUNT, ("never", YES), [])
        self.broken(TRAP, ("never", ("in", "w")), ["b"])

    def test_unsaid(self):
        self.holds(COUNT, ("unsaid", "zz"), [standing(n) for n in range(4)])
        self.broken(COUNT, ("unsaid", "big"), ["a", "a", "a"])
        begun = read_chart(["one r", "  leaf x", "    into say s 1"])
        self.broken(begun, ("unsaid", "s"), [])
        self.holds(begun, ("unsaid", "t"), [(("r", "x"), (), (), ())])
        # What is said in a step that is refused isn't said.
        refused = read_chart(["fact n 0 3 0", "on a", "one r", "  leaf x", "    go on a do say s n, set n 9"])
        self.holds(refused, ("unsaid", "s"), [standing(0)])

    def test_unrefused(self):
        every = [standing(n) for n in range(4)]
        self.broken(COUNT, ("unrefused", None), ["a", "a", "a", "a"])
        self.broken(COUNT, ("unrefused", "a"), ["a", "a", "a", "a"])
        self.holds(COUNT, ("unrefused", "b"), every)
        self.holds(COUNT, ("unrefused", "tick"), every)
        self.broken(LAMP, ("unrefused", "tick"), ["b", "tick", "tick", "tick"])

    def test_behind(self):
        self.holds(COUNT, ("behind", "b", worth(1), worth(0)), [standing(n) for n in range(4)])
        self.broken(COUNT, ("behind", None, worth(1), worth(0)), ["a", "a"])
        self.broken(COUNT, ("behind", "tick", worth(1), worth(0)), ["a", "tick"])
        # Nothing follows what is refused.
        self.holds(COUNT, ("behind", "a", worth(3), ("not", YES)), [standing(n) for n in range(4)])

    def test_before(self):
        self.broken(COUNT, ("before", worth(3), worth(2)), ["a", "a"])
        # Behind a standing with g nothing is looked at.
        self.holds(COUNT, ("before", worth(1), worth(2)), [standing(0), standing(1)])
        self.holds(COUNT, ("before", YES, worth(2)), [standing(0)])
        # A standing with both is right.
        self.holds(COUNT, ("before", worth(2), worth(2)), [standing(n) for n in range(3)])
        self.broken(COUNT, ("before", ("not", YES), YES), [])

    def test_within(self):
        self.holds(LAMP, ("within", ("in", "lit"), ("in", "off"), 2), [
            (at("off", n=0), None), (at("lit", 0, 0), 2), (at("stuck", 0, 0), None), (at("lit", 1, 0), 1),
            (at("stuck", 1, 0), None), (at("lit", 2, 0), 0), (at("stuck", 2, 0), None),
        ])
        self.broken(LAMP, ("within", ("in", "lit"), ("in", "off"), 1), ["a", "tick", "tick"])
        self.broken(LAMP, ("within", ("in", "lit"), ("in", "stuck"), 0), ["a", "tick"])
        # A refused tick is one, too, and leads to the standing itself.
        self.broken(LAMP, ("within", ("in", "stuck"), ("in", "off"), 3), ["b"] + ["tick"] * 4)
        self.broken(LAMP, ("within", ("in", "stuck"), ("in", "off"), 99), ["b"] + ["tick"] * 100)
        self.broken(LAMP, ("within", ("in", "off"), ("in", "lit"), 0), ["tick"])
        self.holds(LAMP, ("within", ("in", "lit"), ("in", "lit"), 0), [(x, None) for x in reach(LAMP)[0]])

    def test_can(self):
        paper = self.broken(TRAP, ("can", YES, ("in", "v")), ["b"])
        self.assertEqual(paper, ("broken", ["b"], [at("w")]))
        self.holds(TRAP, ("can", ("in", "u"), ("in", "w")), [(at("u"), 1), (at("v"), 2), (at("w"), 0)])
        self.holds(TRAP, ("can", ("in", "v"), ("in", "u")), [(at("u"), 0), (at("v"), 1), (at("w"), None)])
        paper = self.broken(TRAP, ("can", ("in", "v"), ("not", YES)), ["a"])
        self.assertEqual(sorted(paper[2]), sorted([at("u"), at("v"), at("w")]))
        # A standing that has both g and h can.
        self.holds(TRAP, ("can", ("in", "w"), ("in", "w")), [(at("u"), 1), (at("v"), 2), (at("w"), 0)])


class TestTooGreat(unittest.TestCase):
    def great(self, chart, saying, *all_most):
        for most in all_most:
            with self.assertRaises(TooGreat) as caught:
                settled(chart, saying, most=most)
            self.assertEqual(caught.exception.most, most)

    def test_what_shows_it_just_beyond(self):
        """Standings are counted that are come to ahead; the one that shows it isn't."""
        for saying, needed in ((("never", worth(2)), 2), (("before", worth(3), worth(2)), 2), (("never", YES), 1),
                               (("unsaid", "big"), 3), (("unrefused", "a"), 4), (("behind", "tick", worth(1), worth(0)), 3),
                               (("behind", "a", worth(1), worth(0)), 2)):
            self.assertEqual(settled(COUNT, saying, most=needed)[0], "broken", saying)
            self.great(COUNT, saying, *range(1, needed))

    def test_holding_ones_count_their_rows(self):
        for saying, needed in ((("never", ("not", YES)), 4), (("unsaid", "zz"), 4),
                               (("unrefused", "b"), 4), (("before", worth(1), worth(2)), 2), (("before", YES, YES), 1),
                               (("behind", "b", worth(1), worth(0)), 4), (("can", YES, worth(0)), 4)):
            self.assertEqual(len(settled(COUNT, saying, most=needed)[1]), needed)
            self.great(COUNT, saying, *range(1, needed))

    def test_within_counts_rows_with_waits(self):
        saying = ("within", ("in", "lit"), ("in", "off"), 2)
        self.assertEqual(len(settled(LAMP, saying, most=7)[1]), 7)
        self.great(LAMP, saying, 1, 3, 6)
        saying = ("within", ("in", "off"), ("in", "lit"), 0)
        self.assertEqual(settled(LAMP, saying, most=3)[1], ["tick"])
        self.great(LAMP, saying, 1, 2)
        saying = ("within", ("in", "off"), ("in", "lit"), 3)
        self.assertEqual(settled(LAMP, saying, most=16)[1], ["tick"] * 4)
        self.great(LAMP, saying, 1, 4, 15)

    def test_a_can_counts_all_that_is_come_to(self):
        self.assertEqual(settled(TRAP, ("can", YES, ("not", YES)), most=3)[1], [])
        self.great(TRAP, ("can", YES, ("not", YES)), 1, 2)

    def test_the_most_that_is_not_told(self):
        text = ["fact n 0 1999 0", "on a", "one r", "  leaf x", "    go on a if n < 1999 do set n n + 1"]
        self.assertEqual(len(settled(read_chart(text), ("unsaid", "zz"))[1]), 2000)
        text[0], text[4] = "fact n 0 2000 0", "    go on a if n < 2000 do set n n + 1"
        chart = read_chart(text)
        with self.assertRaises(TooGreat) as caught:
            settled(chart, ("unsaid", "zz"))
        self.assertEqual(caught.exception.most, 2000)
        self.assertEqual(settled(chart, ("never", worth(2000))), ("broken", ["a"] * 2000))
        self.assertEqual(len(settled(chart, ("unsaid", "zz"), most=2001)[1]), 2001)

    def test_refused_ahead_of_it(self):
        with self.assertRaises(NoChart):
            settled(None, ("never", YES), most=1)

    def test_arguments(self):
        told = settled(most=4, saying=("unsaid", "zz"), chart=COUNT)
        self.assertIsNone(judged(paper=told, saying=("unsaid", "zz"), chart=COUNT))
        with self.assertRaises(TypeError):
            settled(COUNT, ("unsaid", "zz"), 4)

    def test_papers_that_are_changed(self):
        for saying in (("unsaid", "zz"), ("never", worth(2)), ("can", YES, worth(0)), ("can", YES, ("not", YES))):
            first = settled(COUNT, saying)
            kept = settled(COUNT, saying)
            for part in first[1:]:
                part.append("spoiled")
            self.assertEqual(settled(COUNT, saying), kept)


class TestDrawn(unittest.TestCase):
    def test_papers_are_right_and_rows_are_shortest(self):
        """What slow.py tells of all rows up to a length, the shortest first, is what the paper's row is."""
        seen = {}
        for seed in range(80):
            drawn = Drawn(seed, least=2)
            longest = 5 if len(drawn.slow.happenings) == 2 else 4
            rows = list(drawn.slow.rows(longest))
            for word in WORDS:
                saying = drawn.saying(word)
                paper = settled(drawn.chart, saying)
                self.assertIsNone(judged(drawn.chart, saying, paper), saying)
                self.assertIsNone(Judge(drawn.slow, saying).judged(paper), saying)
                shown = next((row for row in rows if drawn.slow.shows(saying, row)), None)
                if paper[0] == "broken" and len(paper[1]) <= longest:
                    self.assertEqual(paper[1], shown)
                else:
                    self.assertIsNone(shown)
                if paper[0] == "holds" and word not in ("before", "within"):
                    told = [row[0] for row in paper[1]] if word == "can" else paper[1]
                    self.assertEqual(told, drawn.standings)
                if len(paper[1]) > 0:
                    seen[word, paper[0]] = seen.get((word, paper[0]), 0) + 1
        for word in WORDS:
            for kind in ("holds", "broken"):
                self.assertGreater(seen.get((word, kind), 0), 1, (word, kind))

    def test_too_great_one_by_one(self):
        """A paper is told just from some most on, and always the same one."""
        for seed in range(40):
            drawn = Drawn(seed, most=8)
            for word in WORDS:
                saying = drawn.saying(word)
                paper = settled(drawn.chart, saying)
                told = []
                for most in range(1, 40):
                    try:
                        told.append(settled(drawn.chart, saying, most=most))
                    except TooGreat as error:
                        self.assertEqual(error.most, most)
                        self.assertEqual(told, [])
                self.assertEqual(told, [paper] * len(told))
                if paper[0] == "holds":
                    self.assertEqual(len(told), 39 - len(paper[1]) + 1)
                if word == "can":
                    self.assertEqual(len(told), 39 - len(drawn.standings) + 1)


if __name__ == "__main__":
    unittest.main()
