"""names_of, parent_of, sort_of, within, room_of: point 11."""

import unittest

from deepstands.charts import names_of, parent_of, room_of, sort_of, within
from deepstands.errors import NoChart, NoMove, NoName

from helpers import YES, both, chart, move, one, stand

INNER = one("p", stand("x", moves=[move(goals=["y"]), move(goals=["p"]), move()]), stand("y", "end"),
            stand("b", "back"), moves=[move(("done",), goals=["x"]), move(goals=["u"])])
MIDDLE = both("m", INNER, one("q", one("s", stand("t", moves=[move(goals=["t"])]), moves=[move(goals=["x"])])),
              stand("v"), moves=[move(goals=["x"])])
ROOT = one("r", MIDDLE, stand("u", moves=[move(goals=["u"])]), stand("d", "deep"),
           moves=[move(goals=["u"]), move(goals=["x", "t"]), move(), move(goals=["t"])])
CHART = chart(ROOT)
ORDER = ["r", "m", "p", "x", "y", "b", "q", "s", "t", "v", "u", "d"]
PARENTS = {"r": None, "m": "r", "p": "m", "x": "p", "y": "p", "b": "p", "q": "m", "s": "q", "t": "s", "v": "m",
           "u": "r", "d": "r"}
SORTS = {"r": "one", "m": "all", "p": "one", "x": "leaf", "y": "end", "b": "back", "q": "one", "s": "one",
         "t": "leaf", "v": "leaf", "u": "leaf", "d": "deep"}
NO_NAMES = ("zz", "a", "h", "", None, 0, True, ("r",), ["r"], "R")


class TestTree(unittest.TestCase):
    def refused(self, error, field, wanted, ask, *args):
        with self.assertRaises(error) as caught:
            ask(*args)
        told = getattr(caught.exception, field)
        self.assertEqual(told, wanted)
        self.assertIs(type(told), type(wanted))

    def test_names_in_order(self):
        self.assertEqual(names_of(CHART), ORDER)
        self.assertIsInstance(names_of(CHART), list)
        self.assertEqual(names_of(chart(both("p", stand("a"), stand("b")), facts=())), ["p", "a", "b"])

    def test_parents_and_sorts(self):
        for name in ORDER:
            self.assertEqual(parent_of(CHART, name), PARENTS[name])
            self.assertEqual(sort_of(CHART, name), SORTS[name])

    def test_within(self):
        for first in ORDER:
            for second in ORDER:
                above = []
                at = PARENTS[second]
                while at is not None:
                    above.append(at)
                    at = PARENTS[at]
                self.assertIs(within(CHART, first, second), first in above, (first, second))

    def test_room_of_a_roots_move(self):
        self.assertEqual(room_of(CHART, "r", 0), "r")
        self.assertEqual(room_of(CHART, "r", 1), "r")
        self.assertEqual(room_of(CHART, "r", 3), "r")
        every = chart(both("r", stand("x"), one("p", stand("y")), moves=[move(goals=["y"])]))
        self.assertEqual(room_of(every, "r", 0), "r")

    def test_room_of_a_move_without_goals(self):
        self.assertIsNone(room_of(CHART, "r", 2))
        self.assertIsNone(room_of(CHART, "x", 2))

    def test_room_is_the_least_one_that_has_all_properly(self):
        self.assertEqual(room_of(CHART, "x", 0), "p")
        self.assertEqual(room_of(CHART, "x", 1), "r")
        self.assertEqual(room_of(CHART, "p", 1), "r")
        self.assertEqual(room_of(CHART, "t", 0), "s")
        self.assertEqual(room_of(CHART, "s", 0), "r")
        self.assertEqual(room_of(CHART, "u", 0), "r")

    def test_room_is_looked_for_from_the_stand_on(self):
        told = stand("t", moves=[move(goals=[goal]) for goal in ("s", "q", "p", "z")])
        root = one("r", one("p", one("q", one("s", told, stand("w")), stand("v"))), stand("z"))
        self.assertEqual([room_of(chart(root), "t", k) for k in range(4)], ["q", "p", "r", "r"])

    def test_room_of_a_stand_straight_in_an_all_to_a_goal_within_it(self):
        self.assertEqual(room_of(CHART, "p", 0), "r")
        self.assertEqual(room_of(CHART, "m", 0), "r")
        regions = both("r", one("p", one("q", stand("x"), moves=[move(goals=["x"])]), moves=[move(goals=["q"])]))
        self.assertEqual(room_of(chart(regions), "q", 0), "p")
        self.assertEqual(room_of(chart(regions), "p", 0), "r")

    def test_room_of_goals_in_several_regions(self):
        moves = [move(goals=["x", "y"]), move(goals=["x"]), move(goals=["y", "x"])]
        every = both("m", one("p", stand("x", moves=moves)), one("q", stand("y")))
        self.assertEqual(room_of(chart(one("r", one("o", every), stand("z"))), "x", 0), "o")
        self.assertEqual(room_of(chart(one("r", one("o", every), stand("z"))), "x", 1), "p")
        self.assertEqual(room_of(chart(one("r", one("o", every), stand("z"))), "x", 2), "o")
        self.assertEqual(room_of(chart(every), "x", 0), "m")
        self.assertEqual(room_of(chart(every), "x", 1), "p")

    def test_room_with_a_marker_for_goal(self):
        root = one("r", one("p", stand("x", moves=[move(goals=["b"]), move(goals=["c"])]), stand("b", "back")),
                   stand("c", "deep"), moves=[move(goals=["b"])])
        self.assertEqual(room_of(chart(root), "x", 0), "p")
        self.assertEqual(room_of(chart(root), "x", 1), "r")
        self.assertEqual(room_of(chart(root), "r", 0), "r")

    def test_no_chart(self):
        bad = chart(stand("r"))
        for thing, wrong in ((None, ("chart",)), ((), ("chart",)), (bad, ("root",)), (list(CHART), ("chart",))):
            self.refused(NoChart, "wrong", wrong, names_of, thing)
            self.refused(NoChart, "wrong", wrong, parent_of, thing, "zz")
            self.refused(NoChart, "wrong", wrong, sort_of, thing, "zz")
            self.refused(NoChart, "wrong", wrong, within, thing, "zz", None)
            self.refused(NoChart, "wrong", wrong, room_of, thing, "zz", -1)

    def test_no_name(self):
        for name in NO_NAMES:
            self.refused(NoName, "name", name, parent_of, CHART, name)
            self.refused(NoName, "name", name, sort_of, CHART, name)
            self.refused(NoName, "name", name, within, CHART, name, "x")
            self.refused(NoName, "name", name, within, CHART, "x", name)
            self.refused(NoName, "name", name, within, CHART, name, "yy")
            self.refused(NoName, "name", name, room_of, CHART, name, 0)
            self.refused(NoName, "name", name, room_of, CHART, name, None)

    def test_no_move(self):
        for number in (4, 5, -1, -4, None, True, False, "0", (0,), [0], 10 ** 30):
            self.refused(NoMove, "number", number, room_of, CHART, "r", number)
        self.refused(NoMove, "number", 0, room_of, CHART, "v", 0)
        self.refused(NoMove, "number", 0, room_of, CHART, "b", 0)
        self.refused(NoMove, "number", 3, room_of, CHART, "x", 3)

    def test_guards_and_deeds_do_not_matter(self):
        root = one("r", stand("x", moves=[(("after", 3), ("in", "x"), (("raise", "h"),), ("x",)), (("on", "h"), YES, (), ())]))
        self.assertEqual([room_of(chart(root), "x", k) for k in (0, 1)], ["r", None])
