"""step and start: points 15 and 16."""

import textwrap
import unittest

from deepstands.charts import room_of
from deepstands.errors import Beyond, Endless, NoChart, NoHappening, NoStanding
from deepstands.steps import start, step, trace, trace_start
from deepstands.texts import read_chart

HEAD = ["fact n 0 9 1", "fact u -9 9 0", "on h", "on k", "on l"]


def charted(text):
    """The chart of a text that begins with the root."""
    return read_chart(HEAD + textwrap.dedent(text).strip("\n").split("\n"))


def behind(chart, *happenings):
    """The standing that a row of happenings leads to from the begin."""
    standing = start(chart)[0]
    for happening in happenings:
        standing = step(chart, standing, happening)[0]
    return standing


class Stepping(unittest.TestCase):
    def stood(self, chart, happenings, *wanted):
        self.assertEqual(behind(chart, *happenings)[0], wanted)

    def said(self, chart, happenings, *wanted):
        """What the last happening of a row says."""
        told = step(chart, behind(chart, *happenings[:-1]), happenings[-1])[1]
        self.assertEqual(told, list(wanted))
        self.assertIsInstance(told, list)

    def refused(self, error, fields, ask, *args):
        with self.assertRaises(error) as caught:
            ask(*args)
        for field, wanted in fields.items():
            told = getattr(caught.exception, field)
            self.assertEqual(told, wanted)
            self.assertIs(type(told), type(wanted))


class TestStart(Stepping):
    def test_firsts_and_alls_are_entered(self):
        chart = charted("""
            one r
              back b
              all m
                one p
                  deep d
                  leaf x
                    go after 3
                  leaf y
                leaf z
                one q
                  all w
                    leaf v
              leaf o
        """)
        standing, said = start(chart)
        self.assertEqual(standing, (("r", "m", "p", "x", "z", "q", "w", "v"), (1, 0), (("x", 0),), ()))
        self.assertEqual(said, [])
        self.assertIsInstance(said, list)

    def test_intos_are_done_in_the_charts_order(self):
        chart = charted("""
            all r
              into say r 1, set n n + 1
              out say never 1
              one p
                into say p n, set n n + n
                leaf x
                  into say x n
                leaf y
                  into say never 1
              leaf z
                into say z n - u
        """)
        self.assertEqual(start(chart), ((("r", "p", "x", "z"), (4, 0), (), ()),
                                        [("r", 1), ("p", 2), ("x", 4), ("z", 4)]))

    def test_what_is_raised_at_the_begin_is_taken_behind_it(self):
        chart = charted("""
            all r
              into raise h
              go on h do say never n
              one p
                into set n 5, raise k
                leaf x
                  go on h do say both n
                  go on k to y
                leaf y
                  into say y n
              leaf z
                into say z 0
        """)
        self.assertEqual(start(chart), ((("r", "p", "y", "z"), (5, 0), (), ()), [("z", 0), ("both", 5), ("y", 5)]))

    def test_an_end_that_is_entered_first(self):
        chart = charted("""
            one r
              go done do say over 1 to x
              end e
                into raise h
                go on h do say h 2
              leaf x
        """)
        self.assertEqual(start(chart), ((("r", "x"), (1, 0), (), ()), [("h", 2), ("over", 1)]))

    def test_begins_that_are_refused(self):
        self.refused(Beyond, {"fact": "n", "stand": "x"}, start, charted("one r\n  leaf x\n    into set n 10"))
        self.refused(Beyond, {"fact": "n", "stand": "r"}, trace_start, charted("one r\n  into set n 0 - 1\n  leaf x"))
        raised = charted("one r\n  into raise h\n  go on h do set u u - 10\n  leaf x")
        self.refused(Beyond, {"fact": "u", "stand": "r"}, start, raised)
        self.refused(Endless, {}, start, charted("one r\n  into raise h\n  go on h do raise h\n  leaf x"))
        self.refused(NoChart, {"wrong": ("chart",)}, start, None)
        self.refused(NoChart, {"wrong": ("root",)}, trace_start, charted("leaf r"))


class TestDeeds(Stepping):
    def test_one_by_one_by_the_worths_as_they_are_then(self):
        chart = charted("""
            one r
              leaf x
                go on h do say n n, set n n + 1, say n n, set u n + n, set n u - n - 1, say n n, say tick u - 5, say n 0 - u
        """)
        self.said(chart, ["h"], ("n", 1), ("n", 2), ("n", 1), ("tick", -1), ("n", -4))
        self.assertEqual(behind(chart, "h"), (("r", "x"), (1, 4), (), ()))

    def test_outs_in_back_order_then_moves_then_intos(self):
        chart = charted("""
            one r
              out say never 2
              all m
                out say m n
                one p
                  out say p n
                  leaf x
                    out say x n, set n n + 1
                    go on h do say move n, set n 0 to o
                leaf y
                  out say y n
              one o
                into say o n, set n n + 3
                leaf z
                  into say z n
        """)
        self.said(chart, ["h"], ("y", 1), ("x", 1), ("p", 2), ("m", 2), ("move", 2), ("o", 0), ("z", 3))
        self.stood(chart, ["h"], "r", "o", "z")

    def test_several_moves_are_done_together(self):
        rows = ["all r"]
        for p, x, y in (("p", "x", "x1"), ("q", "y", "y1"), ("s", "z", "z1")):
            rows += [f"  one {p}", f"    leaf {x}", f"      out say {x} n, set n n + 1",
                     f"      go on h do say m{x} n, set n n + 1 to {y}",
                     f"    leaf {y}", f"      into say {y} n, set n n + 1"]
        chart = charted("\n".join(rows))
        self.refused(Beyond, {"fact": "n", "stand": "z1"}, step, chart, start(chart)[0], "h")
        standing = (("r", "p", "x", "q", "y", "s", "z"), (0, 0), (), ())
        self.assertEqual(step(chart, standing, "h"), (
            (("r", "p", "x1", "q", "y1", "s", "z1"), (9, 0), (), ()),
            [("z", 0), ("y", 1), ("x", 2), ("mx", 3), ("my", 4), ("mz", 5), ("x1", 6), ("y1", 7), ("z1", 8)],
        ))

    def test_moves_deeds_are_done_as_they_were_chosen(self):
        chart = charted("""
            all r
              go on h do say r n
              all m
                leaf x
                  go on h do say x n, set n n + 1
                one q
                  go on k do say q n
                  leaf y
                    go on h do say y n, set n n + n
              leaf z
                go on h do say z n
        """)
        self.said(chart, ["h"], ("x", 1), ("y", 2), ("z", 4))
        self.said(chart, ["k"], ("q", 1))

    def test_a_move_without_goals_leaves_and_enters_nothing(self):
        chart = charted("""
            one r
              leaf x
                into set n n + 1
                out set n 9
                go on h do say s 1
                go after 2
        """)
        standing = (("r", "x"), (3, 0), (("x", 1),), ())
        self.assertEqual(step(chart, standing, "h"), (standing, [("s", 1)]))

    def test_a_move_to_its_own_stand_leaves_and_enters_it(self):
        chart = charted("""
            one r
              leaf x
                into say ahead n
                out say gone n
                go on h do say move n to x
                go after 2
        """)
        standing = (("r", "x"), (3, 0), (("x", 1),), ())
        self.assertEqual(step(chart, standing, "h"), ((("r", "x"), (3, 0), (("x", 0),), ()),
                                                      [("gone", 3), ("move", 3), ("ahead", 3)]))

    def test_happenings_that_do_nothing(self):
        chart = charted("one r\n  leaf x\n    go on h if n = 2 to y\n  leaf y")
        standing = start(chart)[0]
        for happening in ("h", "k", "tick"):
            self.assertEqual(step(chart, standing, happening), (standing, []))


class TestEntered(Stepping):
    def test_between_the_goal_and_the_room_and_the_rest_of_alls(self):
        chart = charted("""
            one r
              leaf x
                go on h to v
                go on k to m
                go on l to q
              all m
                one p
                  leaf p1
                  leaf p2
                one q
                  leaf q1
                  all w
                    leaf w1
                    one w2
                      leaf v1
                      leaf v
        """)
        self.stood(chart, ["h"], "r", "m", "p", "p1", "q", "w", "w1", "w2", "v")
        self.stood(chart, ["k"], "r", "m", "p", "p1", "q", "q1")
        self.stood(chart, ["l"], "r", "m", "p", "p1", "q", "q1")

    def test_goals_in_several_regions(self):
        chart = charted("""
            one r
              leaf x
                go on h to p2, q2
                go on k to q2, s2
                go on l to s, q2, p
              all m
                one p
                  leaf p1
                  leaf p2
                one q
                  leaf q1
                  leaf q2
                one s
                  leaf s1
                  leaf s2
        """)
        self.stood(chart, ["h"], "r", "m", "p", "p2", "q", "q2", "s", "s1")
        self.stood(chart, ["k"], "r", "m", "p", "p1", "q", "q2", "s", "s2")
        self.stood(chart, ["l"], "r", "m", "p", "p1", "q", "q2", "s", "s1")

    def test_a_room_that_is_a_root_and_an_all(self):
        chart = charted("""
            all r
              into say never 1
              out say never 2
              one p
                leaf x
                  go on h to q2, x1
                leaf x1
                  into say x1 3
                  go on h to x
              one q
                leaf q1
                  out say q1 4
                leaf q2
                  into say q2 5
        """)
        self.said(chart, ["h"], ("q1", 4), ("x1", 3), ("q2", 5))
        self.stood(chart, ["h"], "r", "p", "x1", "q", "q2")
        self.stood(chart, ["h", "h"], "r", "p", "x", "q", "q2")

    def test_a_root_is_never_left(self):
        chart = charted("""
            one r
              into say n n, set n n + 1
              out say never 2
              go on h to x
              leaf x
                out say x n
              leaf y
              back b
        """)
        self.assertEqual(start(chart)[1], [("n", 1)])
        self.assertEqual(step(chart, start(chart)[0], "h"), ((("r", "x"), (2, 0), (), ()), [("x", 2)]))

    def test_a_stand_straight_in_an_all_to_a_goal_within_it(self):
        chart = charted("""
            one r
              all m
                into say m 2
                out say m 1
                one p
                  go on h to y
                  leaf x
                  leaf y
                one q
                  leaf s
                    go on k to t
                  leaf t
              leaf o
        """)
        self.stood(chart, ["k"], "r", "m", "p", "x", "q", "t")
        self.stood(chart, ["k", "h"], "r", "m", "p", "y", "q", "s")
        self.said(chart, ["k", "h"], ("m", 1), ("m", 2))

    def test_a_one_without_its_marker_takes_its_first(self):
        chart = charted("""
            one r
              one p
                leaf x
                  go on h to y
                leaf y
                  go on h to o
                back b
              leaf o
                go on h to p
                go on k to b
        """)
        self.assertEqual(behind(chart, "h", "h"), (("r", "o"), (1, 0), (), (("b", ("y",)),)))
        self.assertEqual(behind(chart, "h", "h", "h"), (("r", "p", "x"), (1, 0), (), (("b", ("y",)),)))
        self.assertEqual(behind(chart, "h", "h", "k"), (("r", "p", "y"), (1, 0), (), (("b", ("y",)),)))


MARKED = """
    one r
      leaf o
        go on h to b
        go on k to d
        go on l to p
      one p
        go on l to o
        back b
        leaf x
          go on h to q
        one q
          go on k to d
          back c
          leaf y
            go on h to z
          all z
            go on h to b
            one s
              leaf s1
                go on k to s2
              leaf s2
                go on k to c
            leaf t
        deep d
"""
P_KEEPS = (("b", ("q",)), ("d", ("q", "z", "s", "s2", "t")))


class TestMarkers(Stepping):
    CHART = charted(MARKED)

    def kept(self, happenings, *wanted):
        self.assertEqual(behind(self.CHART, *happenings)[3], wanted)

    def test_with_nothing_kept_the_first_is_entered(self):
        self.stood(self.CHART, ["h"], "r", "p", "x")
        self.stood(self.CHART, ["k"], "r", "p", "x")
        self.kept(["h"])
        self.kept(["k"])

    def test_what_is_kept(self):
        self.kept(["l"])
        self.kept(["l", "h"])
        self.kept(["l", "l"], ("b", ("x",)), ("d", ("x",)))
        self.kept(["l", "h", "l"], ("b", ("q",)), ("c", ("y",)), ("d", ("q", "y")))
        self.stood(self.CHART, ["l", "h", "h", "k"], "r", "p", "q", "z", "s", "s2", "t")
        self.kept(["l", "h", "h", "k", "l"], ("b", ("q",)), ("c", ("z",)), P_KEEPS[1])

    def test_a_back_goes_to_the_stand_and_on_to_firsts(self):
        self.stood(self.CHART, ["l", "h", "h", "k", "l", "h"], "r", "p", "q", "y")

    def test_a_deep_goes_to_all_of_it(self):
        row = ["l", "h", "h", "k", "l", "k"]
        self.stood(self.CHART, row, "r", "p", "q", "z", "s", "s2", "t")
        self.kept(row, ("b", ("q",)), ("c", ("z",)), P_KEEPS[1])

    def test_it_stays_kept_till_the_one_is_left_again(self):
        row = ["l", "h", "h", "k", "l", "l"]
        self.stood(self.CHART, row, "r", "p", "x")
        self.kept(row, ("b", ("q",)), ("c", ("z",)), P_KEEPS[1])
        self.kept(row + ["l"], ("b", ("x",)), ("c", ("z",)), ("d", ("x",)))

    def test_a_marker_of_the_room(self):
        # From z the room of b is p, which isn't left: nothing is kept anew, and with nothing kept its first is entered.
        self.assertEqual(room_of(self.CHART, "z", 0), "p")
        self.stood(self.CHART, ["l", "h", "h", "h"], "r", "p", "x")
        self.kept(["l", "h", "h", "h"], ("c", ("z",)))
        row = ["l", "h", "l", "k"]
        self.stood(self.CHART, row, "r", "p", "q", "y")
        self.stood(self.CHART, row + ["h", "h"], "r", "p", "q", "y")
        self.kept(row + ["h", "h"], ("b", ("q",)), ("c", ("z",)), ("d", ("q", "y")))

    def test_a_one_that_is_left_keeps_ahead_of_what_is_entered(self):
        chart = charted("""
            one r
              go on k to b
              one p
                leaf x
                  go on h to y
                leaf y
                  go on h to b
                back b
              leaf o
        """)
        self.assertEqual(behind(chart, "h", "h"), (("r", "p", "x"), (1, 0), (), ()))
        self.assertEqual(behind(chart, "h", "k"), (("r", "p", "y"), (1, 0), (), (("b", ("y",)),)))
        self.assertEqual(behind(chart, "h", "k", "h"), (("r", "p", "y"), (1, 0), (), (("b", ("y",)),)))

    def test_markers_of_several_regions(self):
        chart = charted("""
            one r
              leaf o
                go on h to b, d
                go on k to d, x2
              all m
                go on l to o
                one p
                  leaf x1
                    go on h to x2
                  leaf x2
                  back b
                one q
                  deep d
                  leaf y1
                    go on h to y3
                  one y2
                    leaf y3
                    leaf y4
        """)
        self.stood(chart, ["h"], "r", "m", "p", "x1", "q", "y1")
        self.assertEqual(behind(chart, "h", "h", "l")[3], (("b", ("x2",)), ("d", ("y2", "y3"))))
        self.stood(chart, ["h", "h", "l", "h"], "r", "m", "p", "x2", "q", "y2", "y3")
        self.stood(chart, ["h", "l", "k"], "r", "m", "p", "x2", "q", "y1")

    def test_what_a_standing_tells_that_a_roots_markers_keep(self):
        chart = charted("""
            one r
              go on h to b
              go on k to d
              leaf x
              one p
                leaf y
                leaf z
              back b
              deep d
        """)
        standing = (("r", "x"), (1, 0), (), (("b", ("p",)), ("d", ("p", "z"))))
        self.assertEqual(step(chart, standing, "h")[0], (("r", "p", "y"), (1, 0), (), standing[3]))
        self.assertEqual(step(chart, standing, "k")[0], (("r", "p", "z"), (1, 0), (), standing[3]))
        self.stood(chart, ["h"], "r", "x")


class TestEnds(Stepping):
    def test_a_done_comes_behind_the_row_of_inner_whats(self):
        chart = charted("""
            one r
              go done do say over n
              go on k do say k n
              go on l do say l n
              leaf x
                go on h do raise k to e
              end e
                into raise l, say e n, set n n + 1
        """)
        self.said(chart, ["h"], ("e", 1), ("k", 2), ("l", 2), ("over", 2))

    def test_a_done_comes_ahead_of_what_is_entered_behind_it(self):
        chart = charted("""
            one r
              leaf o
                go on h to m
              all m
                one p
                  go done do say p 1
                  end e1
                    into say e1 1
                one q
                  go done do say q 2
                  end e2
                    into say e2 2, raise k
                leaf z
                  into say z 3, raise l
                  go on k do say k 4
                  go on l do say l 5
        """)
        self.said(chart, ["h"], ("e1", 1), ("e2", 2), ("z", 3), ("p", 1), ("k", 4), ("q", 2), ("l", 5))

    def test_an_end_straight_in_an_all_has_no_done(self):
        chart = charted("""
            one r
              go done do say never 1
              leaf o
                go on h to m
              all m
                end e
                leaf z
              end o1
        """)
        self.said(chart, ["h"])
        self.assertEqual(trace(chart, start(chart)[0], "h"), [(("on", "h"), [("o", 0)], ["o"], ["m", "e", "z"])])

    def test_a_done_of_an_end_that_is_left_by_then(self):
        chart = charted("""
            one r
              go done do say never 1
              leaf x
                go on h to e
              end e
                into raise k
                go on k to x
        """)
        told = trace(chart, start(chart)[0], "h")
        self.assertEqual([row[:2] for row in told], [(("on", "h"), [("x", 0)]), (("on", "k"), [("e", 0)]),
                                                     (("done", "r"), [])])
        self.said(chart, ["h"])

    def test_a_done_of_an_end_that_is_left_and_entered_again(self):
        chart = charted("""
            one r
              go done do say over n, set n n + 1
              leaf x
                go on h to e
              end e
                into raise k
                go on k if n = 1 to e
                go on k if n = 2 do say late n
        """)
        # The second k comes behind the first done, which finds the end stood in.
        self.said(chart, ["h"], ("over", 1), ("late", 2), ("over", 2))

    def test_a_done_leads_out(self):
        chart = charted("""
            one r
              one p
                go done to o
                leaf x
                  go on h to e
                end e
              end o
                go on h to p
        """)
        self.stood(chart, ["h"], "r", "o")
        self.stood(chart, ["h", "h"], "r", "p", "x")


class TestRow(Stepping):
    def test_inner_whats_are_taken_in_their_row(self):
        chart = charted("""
            one r
              leaf x
                go on h do raise k, raise l, say h 1
                go on k do raise l, say k 2
                go on l if n < 3 do set n n + 1, say l n
        """)
        self.said(chart, ["h"], ("h", 1), ("k", 2), ("l", 2), ("l", 3))

    def test_guards_go_by_the_standing_when_the_what_is_taken(self):
        chart = charted("""
            all r
              one p
                leaf x
                  go on h do set n 5, raise k to y
                leaf y
              one q
                leaf s
                  go on h if in x do say s n
                  go on k if in y and n = 5 do say y n
                  go on k do say never 0
        """)
        self.said(chart, ["h"], ("s", 5), ("y", 5))

    def test_fifty_inner_whats_and_one_more(self):
        rows = ["fact c 0 99 0", "on h", "on k", "one r", "  leaf x", "    go on h do raise k",
                "    go on k if c < {most} do set c c + 1, raise k"]
        for most in (0, 10, 49):
            chart = read_chart([row.format(most=most) for row in rows])
            self.assertEqual(step(chart, start(chart)[0], "h"), ((("r", "x"), (most,), (), ()), []))
            self.assertEqual(len(trace(chart, start(chart)[0], "h")), most + 2)
        chart = read_chart([row.format(most=50) for row in rows])
        self.refused(Endless, {}, step, chart, start(chart)[0], "h")
        self.refused(Endless, {}, trace, chart, start(chart)[0], "h")
        self.assertEqual(step(chart, start(chart)[0], "tick"), (start(chart)[0], []))

    def test_fifty_inner_whats_at_the_begin(self):
        rows = ["fact c 0 99 0", "on k", "one r", "  into raise k", "  leaf x",
                "    go on k if c < {most} do set c c + 1, raise k"]
        chart = read_chart([row.format(most=49) for row in rows])
        self.assertEqual(start(chart), ((("r", "x"), (49,), (), ()), []))
        self.assertEqual(len(trace_start(chart)), 51)
        chart = read_chart([row.format(most=50) for row in rows])
        self.refused(Endless, {}, start, chart)
        self.refused(Endless, {}, trace_start, chart)

    def test_more_in_the_row_than_may_be_taken(self):
        deeds = ", ".join(["raise k"] * 10)
        rows = ["on h", "on k", "one r", "  all m"]
        rows += [row for j in range(5) for row in (f"    leaf x{j}", f"      go on h do {deeds}")]
        chart = read_chart(rows)
        self.assertEqual(len(trace(chart, start(chart)[0], "h")), 51)
        chart = read_chart(rows + ["    leaf y", "      go on h do raise k"])
        self.refused(Endless, {}, step, chart, start(chart)[0], "h")

    def test_dones_are_counted_too(self):
        rows = ["fact c 0 99 0", "on h", "one r", "  go done if c < {most} do set c c + 1 to e", "  leaf x",
                "    go on h to e", "  end e"]
        chart = read_chart([row.format(most=49) for row in rows])
        self.assertEqual(step(chart, start(chart)[0], "h"), ((("r", "e"), (49,), (), ()), []))
        chart = read_chart([row.format(most=50) for row in rows])
        self.refused(Endless, {}, step, chart, start(chart)[0], "h")

    def test_beyond_ahead_of_endless(self):
        rows = ["fact c 0 {most} 0", "on h", "on k", "one r", "  leaf x", "    go on h do raise k",
                "    go on k do set c c + 1, raise k"]
        for most, error in ((48, Beyond), (49, Beyond), (50, Endless), (51, Endless)):
            chart = read_chart([row.format(most=most) for row in rows])
            self.refused(error, {}, step, chart, start(chart)[0], "h")


class TestRefused(Stepping):
    CHART = charted("""
        one r
          go on l do set u 0 - 10 to x
          leaf x
            out set n n + 5
            go on h to y
            go on k do set n n - 2
          leaf y
            into set u u + n
    """)

    def test_beyond_by_out_move_and_into(self):
        standing = (("r", "x"), (5, 0), (), ())
        self.refused(Beyond, {"fact": "n", "stand": "x"}, step, self.CHART, standing, "h")
        standing = (("r", "x"), (4, 1), (), ())
        self.refused(Beyond, {"fact": "u", "stand": "y"}, step, self.CHART, standing, "h")
        standing = (("r", "x"), (1, 1), (), ())
        self.refused(Beyond, {"fact": "n", "stand": "x"}, step, self.CHART, standing, "k")
        self.refused(Beyond, {"fact": "u", "stand": "r"}, step, self.CHART, standing, "l")
        self.refused(Beyond, {"fact": "u", "stand": "r"}, trace, self.CHART, standing, "l")

    def test_worths_at_the_ends_of_spans(self):
        self.assertEqual(step(self.CHART, (("r", "x"), (4, 0), (), ()), "h")[0], (("r", "y"), (9, 9), (), ()))
        self.assertEqual(step(self.CHART, (("r", "x"), (2, 0), (), ()), "k")[0], (("r", "x"), (0, 0), (), ()))

    def test_great_worths_on_the_way(self):
        chart = read_chart(["fact n 0 999999999 999999999", "on h", "on k", "one r", "  leaf x",
                            "    go on h do set n n + n - n, say s n + n + n", "    go on k do set n n + 1"])
        self.assertEqual(step(chart, start(chart)[0], "h"), (start(chart)[0], [("s", 2999999997)]))
        self.refused(Beyond, {"fact": "n", "stand": "x"}, step, chart, start(chart)[0], "k")

    def test_what_is_refused_changes_nothing(self):
        standing = (("r", "x"), (4, 1), (), ())
        for _ in range(2):
            self.refused(Beyond, {}, step, self.CHART, standing, "h")
            self.assertEqual(step(self.CHART, standing, "k"), ((("r", "x"), (2, 1), (), ()), []))

    def test_no_happenings(self):
        standing = start(self.CHART)[0]
        for ask in (step, trace):
            for happening in (None, True, False, 0, 1, "", "zz", "r", "x", "n", "Tick", ("tick",), ("on", "h"), ["h"], [], (),
                              ("h",), ("done", "r")):
                self.refused(NoHappening, {"what": happening}, ask, self.CHART, standing, happening)

    def test_refusals_in_order(self):
        for ask in (step, trace):
            self.refused(NoChart, {"wrong": ("chart",)}, ask, None, None, None)
            self.refused(NoStanding, {"wrong": ("form",)}, ask, self.CHART, None, None)
            self.refused(NoStanding, {"wrong": ("stood",)}, ask, self.CHART, ((), (), (), ()), "zz")
            self.refused(NoHappening, {"what": "zz"}, ask, self.CHART, (("r", "x"), (9, 9), (), ()), "zz")


class TestTicks(Stepping):
    CHART = charted("""
        one r
          go after 3 do say r n
          leaf x
            go after 2 if n = 1 do say x n
            go after 4 to y
          leaf y
            into set n n + 1
            go after 1 do say y n
    """)

    def test_ages_grow_and_stay(self):
        ages, said = [], []
        standing = start(self.CHART)[0]
        for _ in range(8):
            standing, told = step(self.CHART, standing, "tick")
            ages.append([age for _, age in standing[2]])
            said.append(told)
        self.assertEqual(ages, [[1, 1], [2, 2], [3, 3], [4, 0], [4, 1], [4, 2], [4, 2], [4, 2]])
        self.assertEqual(said, [[], [("x", 1)], [("r", 1)], [], [("y", 2)], [], [], []])

    def test_the_greatest_age_that_may_be(self):
        chart = charted("one r\n  leaf x\n    go after 99 do say s n")
        standing = (("r", "x"), (1, 0), (("x", 98),), ())
        self.assertEqual(step(chart, standing, "tick"), ((("r", "x"), (1, 0), (("x", 99),), ()), [("s", 1)]))
        standing = (("r", "x"), (1, 0), (("x", 99),), ())
        behind_it = (("r", "x"), (1, 0), (("x", 100),), ())
        self.assertEqual(step(chart, standing, "tick"), (behind_it, []))
        self.assertEqual(step(chart, behind_it, "tick"), (behind_it, []))

    def test_ages_are_told_in_the_charts_order(self):
        chart = charted("""
            all r
              one p
                leaf x
                  go on h to y
                leaf y
                  go after 5
              one q
                leaf s
                  go after 5
        """)
        standing = step(chart, start(chart)[0], "tick")[0]
        self.assertEqual(standing[2], (("s", 1),))
        self.assertEqual(step(chart, standing, "h")[0][2], (("y", 0), ("s", 1)))

    def test_happenings_let_no_age_grow(self):
        standing = (("r", "x"), (1, 0), (("r", 1), ("x", 1)), ())
        self.assertEqual(step(self.CHART, standing, "h"), (standing, []))


if __name__ == "__main__":
    unittest.main()
