"""fits and chosen: points 13 and 14."""

import unittest

from deepstands.errors import NoChart, NoHappening, NoStanding
from deepstands.steps import chosen, fits
from deepstands.texts import read_chart

HEAD = ["fact n 0 9 1", "fact o1 -9 9 -2", "on h", "on k"]
H, K, TICK = ("on", "h"), ("on", "k"), ("tick",)
NO_WHATS = (
    None, True, False, 0, 1, "", "h", "tick", "on", (), [], ("on",), ("on", "h", "h"), ("on", "zz"), ("on", "tick"),
    ("on", "r"), ("on", None), ("on", 1), ("on", ("h",)), ("on", ["h"]), ["on", "h"], ["tick"], ("tick", "tick"),
    ("tick", ()), ("done",), ("done", "x"), ("done", "e"), ("done", "w"), ("done", "zz"), ("done", None), ("done", "h"),
    ("done", ["p"]), ["done", "p"], ("after", 1), ("after", "h"), ("start",), (("tick",),), ("On", "h"),
    ("done", "p", "p"), ("", "h"), (None,), ("h", "on"), ("tick", "p"), ("Done", "p"), (None, "p"), (None, "h"),
)


def charted(*rows):
    return read_chart(HEAD + list(rows))


def at(chart, *names, worths=None, ages=(), kept=()):
    """A standing of a chart, worths as they are first where none are told."""
    return (names, tuple(fact[3] for fact in chart[0]) if worths is None else worths, ages, kept)


WHATS = charted(
    "one r",
    "  go on h",
    "  go done",
    "  one p",
    "    go on k",
    "    go on h",
    "    go done",
    "    go done if n = 2",
    "    leaf x",
    "      go on h",
    "      go after 2",
    "      go on h",
    "      go after 1",
    "      go after 2",
    "    end e",
    "      go on k",
    "  end o",
    "  one q",
    "    leaf y",
    "    end z",
    "  all w",
    "    end v",
    "    one u",
    "      end t",
    "      leaf s",
)
AT_X = at(WHATS, "r", "p", "x", ages=(("x", 1),))
AT_E = at(WHATS, "r", "p", "e")
AT_O = at(WHATS, "r", "o")


class Asking(unittest.TestCase):
    def fit(self, chart, standing, what, *wanted):
        told = fits(chart, standing, what)
        self.assertEqual(told, list(wanted))
        self.assertIsInstance(told, list)

    def choose(self, chart, standing, what, *wanted):
        told = chosen(chart, standing, what)
        self.assertEqual(told, list(wanted))
        self.assertIsInstance(told, list)


class TestWhats(Asking):
    def test_happenings(self):
        self.fit(WHATS, AT_X, H, ("r", 0), ("p", 1), ("x", 0), ("x", 2))
        self.fit(WHATS, AT_X, K, ("p", 0))
        self.fit(WHATS, AT_E, K, ("p", 0), ("e", 0))
        self.fit(WHATS, AT_O, K)

    def test_after_is_by_the_tick_alone_and_by_the_age_as_it_is(self):
        for age, wanted in ((0, []), (1, [("x", 3)]), (2, [("x", 1), ("x", 4)]), (3, [])):
            self.fit(WHATS, at(WHATS, "r", "p", "x", ages=(("x", age),)), TICK, *wanted)
        self.fit(WHATS, AT_E, TICK)

    def test_done_is_by_its_own_stand_where_an_end_is_stood_in(self):
        self.fit(WHATS, AT_X, ("done", "p"))
        self.fit(WHATS, AT_E, ("done", "p"), ("p", 2))
        self.fit(WHATS, at(WHATS, "r", "p", "e", worths=(2, 0)), ("done", "p"), ("p", 2), ("p", 3))
        self.fit(WHATS, AT_E, ("done", "r"))
        self.fit(WHATS, AT_O, ("done", "r"), ("r", 1))
        self.fit(WHATS, AT_O, ("done", "p"))
        self.fit(WHATS, at(WHATS, "r", "q", "z"), ("done", "q"))
        self.fit(WHATS, at(WHATS, "r", "w", "v", "u", "t"), ("done", "r"))

    def test_what_is_chosen_of_them(self):
        self.choose(WHATS, AT_X, H, ("x", 0))
        self.choose(WHATS, AT_X, K, ("p", 0))
        self.choose(WHATS, AT_E, K, ("e", 0))
        self.choose(WHATS, AT_E, ("done", "p"), ("p", 2))
        self.choose(WHATS, AT_X, TICK, ("x", 3))
        self.choose(WHATS, AT_X, ("done", "r"))

    def test_what_is_no_what(self):
        for ask in (fits, chosen):
            for what in NO_WHATS:
                with self.assertRaises(NoHappening) as caught:
                    ask(WHATS, AT_X, what)
                self.assertEqual(caught.exception.what, what)
                self.assertIs(type(caught.exception.what), type(what))

    def test_what_is_no_what_and_deep(self):
        deep = ()
        for _ in range(5000):
            deep = (deep,)
        for what in (deep, ("on", deep), (deep, "h"), ("done", deep)):
            with self.assertRaises(NoHappening) as caught:
                fits(WHATS, AT_X, what)
            self.assertIs(caught.exception.what, what)

    def test_a_list_that_is_told_is_not_the_one_handed_in(self):
        what = ["on", ["h"]]
        with self.assertRaises(NoHappening) as caught:
            fits(WHATS, AT_X, what)
        what[1].append("k")
        self.assertEqual(caught.exception.what, ["on", ["h"]])

    def test_refusals_in_order(self):
        for ask in (fits, chosen):
            with self.assertRaises(NoChart) as caught:
                ask((), None, None)
            self.assertEqual(caught.exception.wrong, ("chart",))
            with self.assertRaises(NoStanding) as caught:
                ask(WHATS, AT_X[:2] + ((), ()), None)
            self.assertEqual(caught.exception.wrong, ("ages",))
            with self.assertRaises(NoStanding):
                ask(WHATS, None, H)


class TestGuards(Asking):
    def holds(self, words, wanted, names=("r", "p", "x"), worths=None):
        """Whether a guard of the root's only move holds."""
        chart = charted("one r", f"  go on h if {words}", "  one p", "    leaf x", "    leaf y", "  leaf o")
        standing = at(chart, *names, worths=worths)
        self.fit(chart, standing, H, *([("r", 0)] if wanted else []))
        self.choose(chart, standing, H, *([("r", 0)] if wanted else []))

    def test_yes_and_in(self):
        self.holds("yes", True)
        self.holds("in x", True)
        self.holds("in p", True)
        self.holds("in r", True)
        self.holds("in y", False)
        self.holds("in o", False)
        self.holds("in o", True, names=("r", "o"))
        self.holds("in p", False, names=("r", "o"))

    def test_below_and_same(self):
        for words, wanted in (("n < 2", True), ("n < 1", False), ("n < 0", False), ("n = 1", True), ("n = 2", False),
                              ("o1 < 0 - 1", True), ("o1 = 0 - 2", True), ("o1 < 0 - 2", False), ("0 < o1", False)):
            self.holds(words, wanted)
        self.holds("n = o1 + 3", True)
        self.holds("n = o1 + 3", False, worths=(1, 0))
        self.holds("n < o1", True, worths=(8, 9))

    def test_terms_from_the_left(self):
        self.holds("9 - 4 - 3 = 2", True)
        self.holds("9 - ( 4 - 3 ) = 8", True)
        self.holds("n - o1 + n = 4", True)
        self.holds("n - ( o1 + n ) = 2", True)

    def test_not_both_either(self):
        self.holds("not in y", True)
        self.holds("not not in y", False)
        self.holds("in x and in p", True)
        self.holds("in x and in y", False)
        self.holds("in y and in x", False)
        self.holds("in x or in y", True)
        self.holds("in y or in x", True)
        self.holds("in y or in o", False)
        self.holds("in x or in x and in y", True)
        self.holds("(in x or in x) and in y", False)
        self.holds("not (in x and in y)", True)
        self.holds("not in x or in y", False)

    def test_guards_ten_deep(self):
        self.holds("not not not not not not not not not in y", True)
        self.holds("not not not not not not not not not in x", False)

    def test_worths_of_any_size(self):
        most = ("num", 999999999)
        great = most
        for _ in range(7):
            great = ("sum", great, great)
        below_all = ("less", ("num", 0), great)
        for guard, wanted in (
            (("below", below_all, ("fact", "o1")), True), (("below", great, ("sum", great, ("num", 1))), True),
            (("below", great, great), False), (("same", ("less", great, most), ("less", great, ("num", 999999998))), False),
            (("same", ("less", great, great), ("num", 0)), True), (("below", great, below_all), False),
        ):
            chart = charted("one r", "  leaf x")
            chart = chart[:2] + (chart[2][:5] + (((H, guard, (), ()),),),)
            self.fit(chart, at(chart, "r", "x"), H, *([("r", 0)] if wanted else []))


class TestChosen(Asking):
    def test_the_first_of_a_stand_that_fits(self):
        chart = charted(
            "one r",
            "  leaf x",
            "    go on h if in y",
            "    go on k",
            "    go on h if n = 1 to y",
            "    go on h",
            "  leaf y",
        )
        self.fit(chart, at(chart, "r", "x"), H, ("x", 2), ("x", 3))
        self.choose(chart, at(chart, "r", "x"), H, ("x", 2))
        self.choose(chart, at(chart, "r", "x", worths=(2, 0)), H, ("x", 3))
        self.choose(chart, at(chart, "r", "y"), H)

    def test_a_move_within_bars_those_of_all_that_have_it(self):
        rows = ["one r", "  go on h to x", "  one p", "    go on h", "    leaf x", "      go on h if n = 1", "    leaf y"]
        chart = charted(*rows)
        self.choose(chart, at(chart, "r", "p", "x"), H, ("x", 0))
        self.choose(chart, at(chart, "r", "p", "x", worths=(2, 0)), H, ("p", 0))
        self.choose(chart, at(chart, "r", "p", "y"), H, ("p", 0))
        rows.remove("    go on h")
        chart = charted(*rows)
        self.choose(chart, at(chart, "r", "p", "x"), H, ("x", 0))
        self.choose(chart, at(chart, "r", "p", "y"), H, ("r", 0))

    def test_up_order(self):
        chart = charted(
            "all r",
            "  go on k",
            "  all p",
            "    go on k",
            "    leaf x",
            "      go on h",
            "    one q",
            "      go on h",
            "      leaf y",
            "        go on k if n = 2",
            "        go on h if n = 2",
            "  leaf z",
            "    go on h",
        )
        standing = at(chart, "r", "p", "x", "q", "y", "z")
        self.fit(chart, standing, H, ("x", 0), ("q", 0), ("z", 0))
        self.choose(chart, standing, H, ("x", 0), ("q", 0), ("z", 0))
        self.fit(chart, standing, K, ("r", 0), ("p", 0))
        self.choose(chart, standing, K, ("p", 0))
        standing = at(chart, "r", "p", "x", "q", "y", "z", worths=(2, 0))
        self.fit(chart, standing, H, ("x", 0), ("q", 0), ("y", 1), ("z", 0))
        self.choose(chart, standing, H, ("x", 0), ("y", 1), ("z", 0))
        self.choose(chart, standing, K, ("y", 0))

    def regions(self, x_rows, s_rows, what, *wanted):
        """What is chosen where x and s are stood in, in unlike stands of an all."""
        x_rows = ["        " + row for row in x_rows]
        s_rows = ["        " + row for row in s_rows]
        chart = charted(
            "one r", "  all m", "    go on k", "    one p", "      go on k", "      leaf x", *x_rows, "      leaf y",
            "    one q", "      go on k", "      leaf s", *s_rows, "      leaf t", "  leaf o",
        )
        self.choose(chart, at(chart, "r", "m", "p", "x", "q", "s"), what, *wanted)

    def test_rooms_that_share_nothing(self):
        self.regions(["go on h to y"], ["go on h to t"], H, ("x", 0), ("s", 0))
        self.regions(["go on h to x"], ["go on h to s"], H, ("x", 0), ("s", 0))

    def test_rooms_that_share_something(self):
        self.regions(["go on h to o"], ["go on h to t"], H, ("x", 0))
        self.regions(["go on h to t"], ["go on h to t"], H, ("x", 0))
        self.regions(["go on h to y"], ["go on h to o"], H, ("x", 0))
        self.regions(["go on h to o"], ["go on h to o"], H, ("x", 0))
        self.regions(["go on h to y, t"], ["go on h to t"], H, ("x", 0))
        self.regions([], ["go on h to t"], H, ("s", 0))

    def test_no_other_move_is_tried_where_the_first_that_fits_is_barred(self):
        self.regions(["go on h to o"], ["go on h to t", "go on h"], H, ("x", 0))
        self.regions(["go on h to o"], ["go on h if n = 2 to t", "go on h"], H, ("x", 0), ("s", 1))

    def test_a_move_without_goals_leaves_nothing(self):
        self.regions(["go on h to o"], ["go on h"], H, ("x", 0), ("s", 0))
        self.regions(["go on h"], ["go on h to o"], H, ("x", 0), ("s", 0))
        self.regions(["go on h"], ["go on h"], H, ("x", 0), ("s", 0))

    def test_inner_and_outer_moves_beside_each_other(self):
        self.regions(["go on k to y"], ["go on h"], K, ("x", 0), ("q", 0))
        self.regions(["go on h"], ["go on k to o"], K, ("p", 0), ("s", 0))
        self.regions(["go on h"], ["go on h"], K, ("p", 0), ("q", 0))

    def test_a_stand_straight_in_an_all_with_a_goal_within_it(self):
        chart = charted(
            "one r", "  all m", "    one p", "      go on h to y", "      leaf x", "      leaf y", "    one q",
            "      leaf s", "        go on h to t", "      leaf t", "  leaf o",
        )
        # Its room is r, so it leaves q, too.
        self.choose(chart, at(chart, "r", "m", "p", "x", "q", "s"), H, ("p", 0))
        self.choose(chart, at(chart, "r", "m", "p", "x", "q", "t"), H, ("p", 0))

    def test_a_root_that_is_an_all_is_a_room(self):
        chart = charted(
            "all r", "  go on k to x", "  one p", "    leaf x", "      go on h to x, t", "    leaf y", "      go on h to x",
            "  one q", "    leaf s", "      go on h to t", "    leaf t",
        )
        self.choose(chart, at(chart, "r", "p", "x", "q", "s"), H, ("x", 0))
        self.choose(chart, at(chart, "r", "p", "y", "q", "s"), H, ("y", 0), ("s", 0))
        self.choose(chart, at(chart, "r", "p", "y", "q", "s"), K, ("r", 0))


if __name__ == "__main__":
    unittest.main()
