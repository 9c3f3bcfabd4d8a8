"""judged: points 21 and 22."""

import unittest

from deepstands.errors import Beyond, NoChart, NoSaying
from deepstands.sayings import judged, settled
from deepstands.texts import read_chart

from drawn import Drawn
from helpers import YES, chart, one, stand
from judges import Judge
from test_settled import COUNT, LAMP, TRAP, WORDS, at, standing, worth

NEVER = ("not", YES)
EVERY = [standing(n) for n in range(4)]
LIT = ("within", ("in", "lit"), ("in", "off"), 2)
LIT_ROWS = settled(LAMP, LIT)[1]


class TestHolds(unittest.TestCase):
    def wrong(self, chart, saying, rows, wanted):
        told = judged(chart, saying, ("holds", rows))
        self.assertEqual(told, wanted, (saying, rows))
        if wanted is not None:
            self.assertEqual([type(part) for part in told], [str] + [int] * (len(wanted) - 1))

    def test_more_rows_than_are_come_to(self):
        lone = read_chart(["on a", "one r", "  leaf x", "    go on a to x", "  leaf y", "    go on a to y"])
        x, y = (("r", "x"), (), (), ()), (("r", "y"), (), (), ())
        for saying in (("unsaid", "s"), ("unrefused", None), ("behind", None, ("in", "y"), ("in", "y"))):
            for rows in ([x], [x, y], [y, x]):
                self.wrong(lone, saying, rows, None)
            self.wrong(lone, saying, [y], ("begin",))
        # What isn't come to is asked all the same.
        self.wrong(lone, ("never", ("in", "y")), [x, y], ("bad", 1))
        self.wrong(lone, ("never", ("in", "y")), [x], None)
        self.wrong(lone, ("behind", "a", ("in", "y"), ("in", "x")), [y, x], ("bad", 0))
        self.wrong(lone, ("can", ("in", "x"), ("in", "x")), [(x, 0), (y, None)], None)
        self.wrong(lone, ("can", ("in", "y"), ("in", "x")), [(x, 0), (y, None)], ("bad", 1))

    def test_form(self):
        for rows in (None, (), tuple(EVERY), "x", 1, [None], [()], [EVERY[0], EVERY[0]], EVERY + EVERY[:1],
                     [EVERY[0][:3]], [list(EVERY[0])], [(EVERY[0], None)], [(("r",), (0,), (), ())],
                     [(("r", "x"), (4,), (), ())], [(("r", "x"), (True,), (), ())], [(("r", "x"), (False,), (), ())],
                     [(["r", "x"], (0,), (), ())], [EVERY], [[]], [True]):
            self.wrong(COUNT, ("unsaid", "zz"), rows, ("paper",))
        for saying in (("within", YES, YES, 2), ("can", YES, YES)):
            begin = EVERY[0]
            for row in (begin, (begin,), (begin, None, None), [begin, None], (begin, -1), (begin, True), (begin, False),
                        (begin, "1"), (begin, [1]), (begin, ()), (None, 1), (begin[:3], 1), ()):
                self.wrong(COUNT, saying, [row], ("paper",))
        self.wrong(COUNT, ("within", YES, YES, 2), [(EVERY[0], 3)], ("paper",))
        self.wrong(COUNT, ("within", YES, YES, 2), [(EVERY[0], None), (EVERY[0], None)], ("paper",))
        self.wrong(COUNT, ("can", YES, YES), [(EVERY[0], None), (EVERY[0], 1)], ("paper",))
        self.wrong(COUNT, ("can", YES, YES), [(EVERY[0], 10 ** 30)], ("follows", 0, 0))
        self.wrong(COUNT, ("never", YES), [], ("begin",))

    def test_things_that_are_no_paper(self):
        for thing in (None, True, 0, "holds", (), ("holds",), ["holds", EVERY], ("holds", EVERY, EVERY), ("zz", EVERY),
                      (None, EVERY), ("broken",), ("broken", None), ("broken", ()), ("broken", "a"), ("broken", [], []),
                      ("broken", [], [], []), (["holds"], EVERY), (("holds", EVERY),)):
            self.assertEqual(judged(COUNT, ("unsaid", "zz"), thing), ("paper",), thing)
        for thing in (("broken", []), ("broken", [], None), ("broken", [], tuple(EVERY)), ("broken", (), EVERY),
                      ("broken", [], [EVERY[0], EVERY[0]]), ("broken", [], [None]), ("broken", [], [(EVERY[0], 1)]),
                      ("broken", [], [(("r", "x"), (False,), (), ())]), ("broken", [], EVERY, EVERY)):
            self.assertEqual(judged(COUNT, ("can", YES, NEVER), thing), ("paper",), thing)

    def test_a_row_left_out(self):
        """What leads to it isn't followed, by the first happening of the first row."""
        for saying in (("unsaid", "zz"), ("unrefused", "b"), ("behind", "b", worth(1), worth(0)), ("never", NEVER)):
            self.wrong(COUNT, saying, EVERY, None)
            self.wrong(COUNT, saying, EVERY[::-1], None)
            self.wrong(COUNT, saying, EVERY[1:], ("begin",))
            self.wrong(COUNT, saying, [EVERY[0]] + EVERY[2:], ("follows", 0, 0))
            self.wrong(COUNT, saying, EVERY[:2] + EVERY[3:], ("follows", 1, 0))
            self.wrong(COUNT, saying, EVERY[3:] + EVERY[:2], ("follows", 0, 1))
            self.wrong(COUNT, saying, EVERY[:3], ("follows", 2, 0))
        self.wrong(COUNT, ("can", YES, YES), [(EVERY[0], 0), (EVERY[2], 0)], ("follows", 0, 0))

    def test_bad_rows(self):
        self.wrong(COUNT, ("never", worth(2)), EVERY, ("bad", 2))
        self.wrong(COUNT, ("never", YES), EVERY, ("bad", 0))
        self.wrong(COUNT, ("unsaid", "big"), EVERY, ("bad", 2))
        self.wrong(COUNT, ("unrefused", "a"), EVERY, ("bad", 3))
        self.wrong(COUNT, ("unrefused", None), EVERY[::-1], ("bad", 0))
        self.wrong(COUNT, ("behind", "a", worth(1), worth(0)), EVERY, ("bad", 1))
        self.wrong(COUNT, ("behind", "tick", worth(2), worth(0)), EVERY, ("bad", 2))
        self.wrong(COUNT, ("before", worth(3), worth(2)), EVERY, ("bad", 2))
        # What must follow is looked at ahead of what is bad.
        self.wrong(COUNT, ("never", YES), EVERY[:3], ("follows", 2, 0))
        self.wrong(COUNT, ("unrefused", None), EVERY[:3], ("follows", 2, 0))

    def test_unsaid_of_a_begin_that_says_it(self):
        begun = read_chart(["one r", "  leaf x", "    into say s 1"])
        rows = [(("r", "x"), (), (), ())]
        self.wrong(begun, ("unsaid", "s"), rows, ("begin",))
        self.wrong(begun, ("unsaid", "t"), rows, None)
        self.wrong(begun, ("unsaid", "s"), [], ("begin",))

    def test_before_need_not_follow_what_has_g(self):
        self.wrong(COUNT, ("before", worth(1), worth(2)), EVERY[:2], None)
        self.wrong(COUNT, ("before", worth(1), worth(2)), EVERY[:1], ("follows", 0, 0))
        self.wrong(COUNT, ("before", worth(1), worth(2)), EVERY, ("bad", 2))
        self.wrong(COUNT, ("before", worth(1), worth(3)), EVERY[:3], ("follows", 2, 0))
        self.wrong(COUNT, ("before", YES, YES), EVERY[:1], None)
        self.wrong(COUNT, ("before", worth(2), worth(2)), EVERY[:3], None)

    def test_waits(self):
        self.wrong(LAMP, LIT, LIT_ROWS, None)
        for k in range(1, len(LIT_ROWS)):
            told = judged(LAMP, LIT, ("holds", LIT_ROWS[:k] + LIT_ROWS[k + 1:]))
            self.assertEqual(told[0], "follows")
        begin = LIT_ROWS[0]
        self.wrong(LAMP, LIT, [(begin[0], 2)] + LIT_ROWS[1:], ("begin",))
        # One more row, with another wait, must be followed, too.
        self.wrong(LAMP, LIT, LIT_ROWS + [(at("lit", 0, 0), 1)], ("follows", 7, 2))
        more = LIT_ROWS + [(at("lit", 0, 0), 1), (at("lit", 1, 0), 0)]
        # Nothing follows the second one of them by a tick: it is bad.
        self.wrong(LAMP, LIT, more, ("bad", 8))
        # What stands at the last tick has h: that is right.
        self.wrong(LAMP, LIT, LIT_ROWS + [(at("lit", 2, 0), 1)], None)
        # The row's own h doesn't matter: off, with a wait, is followed by off without one.
        self.wrong(LAMP, LIT, LIT_ROWS + [(at("off", n=0), 0)], ("follows", 7, 0))
        lit_later = LIT_ROWS + [(at("off", n=0), 0), (at("lit", 0, 0), 0), (at("stuck", 0, 0), 0)]
        self.wrong(LAMP, LIT, lit_later, ("bad", 8))
        self.wrong(LAMP, LIT, LIT_ROWS + [(at("stuck", 2, 0), 0)], ("bad", 7))

    def test_waits_where_ticks_are_refused(self):
        saying = ("within", ("in", "stuck"), ("in", "off"), 3)
        aged = [(at("stuck", age, 0), 3 - age) for age in range(3)]
        rows = [(at("off", n=0), None)] + [(at("lit", age, 0), None) for age in range(3)] + aged
        self.wrong(LAMP, saying, rows, ("follows", 6, 2))
        rows.append((at("stuck", 2, 0), 0))
        self.wrong(LAMP, saying, rows, ("bad", 7))

    def test_numbers_of_a_can(self):
        saying = ("can", ("in", "u"), ("in", "w"))
        u, v, w = at("u"), at("v"), at("w")
        for rows in ([(u, 1), (v, 2), (w, 0)], [(u, 5), (v, 9), (w, 4)], [(u, 1), (v, None), (w, 0)],
                     [(w, 0), (v, 2), (u, 1)]):
            self.wrong(TRAP, saying, rows, None)
        self.wrong(TRAP, saying, [(u, 1), (v, 1), (w, 0)], ("bad", 1))
        self.wrong(TRAP, saying, [(u, 1), (v, 2), (w, 1)], ("bad", 0))
        self.wrong(TRAP, saying, [(u, 1), (v, 2), (w, None)], ("bad", 0))
        self.wrong(TRAP, saying, [(u, None), (v, 2), (w, 0)], ("bad", 0))
        # From v a leads to u, whose number is greater.
        self.wrong(TRAP, saying, [(u, 2), (v, 1), (w, 5)], ("bad", 1))
        # None with g is bad, also with h.
        self.wrong(TRAP, ("can", ("in", "w"), ("in", "w")), [(u, 1), (v, 2), (w, None)], ("bad", 0))
        self.wrong(TRAP, ("can", ("in", "w"), ("in", "w")), [(w, None), (v, None), (u, None)], ("bad", 0))
        self.wrong(TRAP, ("can", ("in", "v"), ("in", "u")), [(u, 7), (v, 8), (w, None)], None)
        self.wrong(TRAP, ("can", ("in", "v"), ("in", "u")), [(v, 7), (u, 7), (w, None)], ("bad", 0))


class TestBroken(unittest.TestCase):
    def wrong(self, chart, saying, row, wanted, *more):
        self.assertEqual(judged(chart, saying, ("broken", row, *more)), wanted, (saying, row))

    def test_right_ones(self):
        self.wrong(COUNT, ("never", worth(2)), ["a", "a"], None)
        self.wrong(COUNT, ("never", worth(2)), ["tick", "b", "a", "b", "a", "a"], None)
        self.wrong(COUNT, ("unsaid", "big"), ["a", "a", "a"], None)
        self.wrong(COUNT, ("unrefused", "a"), ["a"] * 4, None)
        self.wrong(COUNT, ("behind", "b", worth(2), worth(2)), ["a", "a", "b"], None)
        self.wrong(COUNT, ("before", worth(3), worth(2)), ["a", "tick", "a"], None)
        self.wrong(LAMP, ("within", ("in", "lit"), ("in", "off"), 1), ["tick", "a", "b", "tick", "a", "tick"], None)
        self.wrong(TRAP, ("can", YES, ("in", "v")), ["a", "a", "b", "tick"], None, [at("w")])

    def test_rows(self):
        """The first happening that is none, or is refused, ahead of all else."""
        for thing in ("zz", None, True, 0, "x", ["a"], ("on", "a"), ("tick",), "", ()):
            for saying in (("never", worth(2)), ("unsaid", "zz"), ("before", YES, YES), ("within", YES, YES, 0)):
                self.wrong(COUNT, saying, ["a", thing], ("row", 1))
                self.wrong(COUNT, saying, [thing, thing], ("row", 0))
            self.wrong(COUNT, ("unrefused", None), ["a", thing], ("row", 1))
            self.wrong(COUNT, ("can", YES, YES), ["a", thing], ("row", 1), EVERY)
        for saying in (("never", worth(3)), ("unsaid", "big"), ("behind", None, YES, worth(3)), ("before", NEVER, worth(3))):
            self.wrong(COUNT, saying, ["a"] * 4, ("row", 3))
            self.wrong(COUNT, saying, ["a"] * 5 + ["zz"], ("row", 3))
        self.wrong(COUNT, ("unrefused", "a"), ["a"] * 5, ("row", 3))
        self.wrong(COUNT, ("can", YES, NEVER), ["a"] * 4, ("row", 3), EVERY)
        # Of unrefused the last one may be refused, also where it is another one.
        self.wrong(COUNT, ("unrefused", "b"), ["a"] * 4, ("end",))
        self.wrong(COUNT, ("unrefused", "b"), ["a"] * 5, ("row", 3))
        # Of within a tick may, no other one.
        stuck = ("within", ("in", "stuck"), ("in", "off"), 3)
        self.wrong(LAMP, stuck, ["b"] + ["tick"] * 4, None)
        self.wrong(LAMP, ("never", ("in", "lit")), ["b"] + ["tick"] * 3, ("row", 3))
        self.wrong(COUNT, ("within", YES, NEVER, 0), ["a"] * 4 + ["tick"], ("row", 3))

    def test_ends(self):
        self.wrong(COUNT, ("never", worth(2)), ["a"], ("end",))
        self.wrong(COUNT, ("never", worth(2)), [], ("end",))
        self.wrong(COUNT, ("never", worth(2)), ["a", "a", "b"], ("end",))
        self.wrong(COUNT, ("unsaid", "big"), ["a", "a"], ("end",))
        self.wrong(COUNT, ("unsaid", "big"), [], ("end",))
        self.wrong(COUNT, ("unrefused", "a"), [], ("end",))
        self.wrong(COUNT, ("unrefused", None), ["a"], ("end",))
        self.wrong(COUNT, ("behind", "b", worth(2), worth(2)), ["a", "a", "a"], ("end",))
        self.wrong(COUNT, ("behind", None, YES, NEVER), [], ("end",))
        self.wrong(COUNT, ("before", worth(1), worth(2)), ["a", "a"], ("end",))
        self.wrong(COUNT, ("before", worth(2), worth(2)), ["a", "a"], ("end",))
        self.wrong(LAMP, ("within", ("in", "lit"), ("in", "off"), 1), ["a", "tick"], ("end",))
        self.wrong(LAMP, ("within", ("in", "lit"), ("in", "off"), 1), ["a", "tick", "b"], ("end",))
        self.wrong(LAMP, ("within", ("in", "lit"), ("in", "off"), 2), ["a", "tick", "tick", "tick"], ("end",))
        self.wrong(LAMP, ("within", YES, NEVER, 0), [], ("end",))
        self.wrong(TRAP, ("can", ("in", "v"), ("in", "w")), [], ("end",), [at("u")])

    def test_ahead(self):
        self.wrong(COUNT, ("never", worth(2)), ["a", "a", "tick"], ("ahead",))
        self.wrong(COUNT, ("never", YES), ["a"], ("ahead",))
        self.wrong(COUNT, ("unsaid", "big"), ["a", "a", "a", "b", "a"], ("ahead",))
        self.wrong(COUNT, ("behind", None, YES, NEVER), ["a", "a"], ("ahead",))
        self.wrong(COUNT, ("before", NEVER, worth(0)), ["tick"], ("ahead",))
        begun = read_chart(["on a", "one r", "  leaf x", "    into say s 1", "    go on a do say s 2"])
        self.wrong(begun, ("unsaid", "s"), [], None)
        self.wrong(begun, ("unsaid", "s"), ["a"], ("ahead",))
        self.wrong(begun, ("unsaid", "s"), ["tick"], ("end",))

    def test_waits_behind_a_tick_that_shows_it(self):
        """Behind it the wait is as at a begin: n where the standing has g and not h."""
        saying = ("within", ("in", "x"), NEVER, 1)
        self.wrong(COUNT, saying, ["tick"] * 2, None)
        self.wrong(COUNT, saying, ["tick"] * 3, ("end",))
        self.wrong(COUNT, saying, ["tick"] * 4, ("ahead",))
        self.wrong(COUNT, saying, ["tick", "a", "tick", "b", "tick"], ("end",))
        self.wrong(COUNT, saying, ["tick", "a", "tick", "b", "tick", "tick"], ("ahead",))
        self.wrong(COUNT, ("within", worth(0), worth(3), 0), ["tick", "a"], ("end",))
        self.wrong(COUNT, ("within", worth(0), worth(3), 0), ["tick", "a", "tick"], ("ahead",))
        self.wrong(COUNT, ("within", worth(0), worth(3), 0), ["tick", "tick", "a"], ("end",))

    def test_before_behind_what_has_g(self):
        """Nothing shows it any more, also where standings further on haven't g."""
        self.wrong(COUNT, ("before", worth(1), worth(2)), ["a", "a"], ("end",))
        self.wrong(COUNT, ("before", worth(1), worth(0)), ["a", "b"], ("end",))
        self.wrong(COUNT, ("before", worth(2), worth(1)), ["a", "a", "b"], ("end",))
        self.wrong(COUNT, ("before", worth(2), worth(1)), ["a", "b", "a"], ("ahead",))

    def test_a_can_and_its_standings(self):
        saying = ("can", YES, ("in", "v"))
        u, v, w = at("u"), at("v"), at("w")
        self.wrong(TRAP, saying, ["b"], None, [w])
        self.wrong(TRAP, saying, ["b"], ("begin",), [])
        self.wrong(TRAP, saying, ["b"], ("begin",), [u])
        self.wrong(TRAP, saying, [], ("follows", 0, 0), [u, w])
        self.wrong(TRAP, saying, ["b"], ("follows", 1, 0), [w, u])
        self.wrong(TRAP, saying, [], ("bad", 1), [u, v, w])
        self.wrong(TRAP, saying, ["b"], ("bad", 2), [w, u, v])
        never = ("can", ("in", "v"), NEVER)
        self.wrong(TRAP, never, ["a"], None, [w, v, u])
        self.wrong(TRAP, never, ["a"], ("follows", 0, 0), [v, w])
        self.wrong(TRAP, never, ["b"], ("end",), [w, v, u])


class TestOrder(unittest.TestCase):
    def test_what_is_refused(self):
        beyond = chart(one("r", stand("x", into=[("set", "a", ("num", 10))])))
        for error, asked, saying in ((NoChart, None, None), (NoSaying, beyond, ("never", None)),
                                     (Beyond, beyond, ("never", YES))):
            with self.assertRaises(error):
                judged(asked, saying, None)

    def test_what_is_handed_in_stays(self):
        rows = list(EVERY)
        judged(COUNT, ("unsaid", "zz"), ("holds", rows))
        self.assertEqual(rows, EVERY)
        row = ["a", ["a"]]
        judged(COUNT, ("unsaid", "zz"), ("broken", row))
        self.assertEqual(row, ["a", ["a"]])


class TestDrawn(unittest.TestCase):
    def test_spoiled_papers(self):
        """judged tells what judges.py tells."""
        seen = {}
        for seed in range(70):
            drawn = Drawn(seed, least=2)
            for word in WORDS:
                saying = drawn.saying(word)
                judge = Judge(drawn.slow, saying)
                right = settled(drawn.chart, saying)
                for _ in range(12):
                    paper = drawn.spoiled(right, word)
                    if drawn.by.randint(0, 2) == 0 and judge.judged(paper) not in (("paper",), ("begin",)):
                        paper = drawn.spoiled(paper, word)
                    told = judged(drawn.chart, saying, paper)
                    self.assertEqual(told, judge.judged(paper), (saying, paper))
                    seen[word, told and told[0]] = seen.get((word, told and told[0]), 0) + 1
        for word in WORDS:
            for answer in (None, "paper", "begin", "follows", "bad", "row", "end"):
                self.assertGreater(seen.get((word, answer), 0), 0, (word, answer))
            if word not in ("unrefused", "can"):
                self.assertGreater(seen.get((word, "ahead"), 0), 0, word)

    def test_one_of_holds_and_broken_alone(self):
        for seed in range(40):
            drawn = Drawn(seed)
            for word in WORDS:
                saying = drawn.saying(word)
                broken = settled(drawn.chart, saying)[0] == "broken"
                rows = drawn.standings if word not in ("within", "can") else [(x, None) for x in drawn.standings]
                if broken:
                    self.assertIsNotNone(judged(drawn.chart, saying, ("holds", rows)))
                else:
                    for _ in range(20):
                        paper = ("broken", drawn.row()) + ((list(drawn.standings),) if word == "can" else ())
                        self.assertIsNotNone(judged(drawn.chart, saying, paper))


if __name__ == "__main__":
    unittest.main()
