"""standing_wrong: point 12."""

import unittest
from itertools import combinations

from deepstands.errors import NoChart
from deepstands.steps import standing_wrong, start
from deepstands.texts import read_chart

from helpers import stand

CHART = read_chart([
    "fact n 0 3 1", "fact m -2 2 0", "on h",
    "one r",
    "  go after 4",
    "  one p",
    "    back b",
    "    leaf x",
    "      go after 2",
    "      go on h",
    "      go after 5",
    "    leaf y",
    "    deep d",
    "  all q",
    "    one s",
    "      leaf v",
    "        go after 1",
    "      all w",
    "        leaf w1",
    "        one w2",
    "          leaf w3",
    "          leaf w4",
    "      deep c",
    "    leaf t",
    "      go after 99",
    "  back e",
    "  deep f",
])
IN_X, X_AGES = ("r", "p", "x"), (("r", 0), ("x", 0))
IN_Y, Y_AGES = ("r", "p", "y"), (("r", 3),)
IN_V, V_AGES = ("r", "q", "s", "v", "t"), (("r", 5), ("v", 2), ("t", 100))
IN_W, W_AGES = ("r", "q", "s", "w", "w1", "w2", "w4", "t"), (("r", 0), ("t", 0))
WORTHS = (1, 0)
ALL_KEPT = (("b", ("y",)), ("d", ("x",)), ("c", ("w", "w1", "w2", "w3")), ("e", ("q",)), ("f", ("q", "s", "v", "t")))


class TestStandingWrong(unittest.TestCase):
    def wrong(self, word, *things):
        for thing in things:
            with self.subTest(thing=thing):
                told = standing_wrong(CHART, thing)
                self.assertEqual(told, (word,))
                self.assertIsInstance(told, tuple)

    def right(self, *things):
        for thing in things:
            self.assertIsNone(standing_wrong(CHART, thing), thing)

    def test_standings(self):
        self.right((IN_X, WORTHS, X_AGES, ()), (IN_Y, WORTHS, Y_AGES, ()), (IN_V, WORTHS, V_AGES, ALL_KEPT),
                   (IN_W, WORTHS, W_AGES, ALL_KEPT[2:]), start(CHART)[0])
        self.assertEqual(start(CHART)[0], (IN_X, WORTHS, X_AGES, ()))

    def test_form(self):
        right = (IN_X, WORTHS, X_AGES, ())
        self.wrong("form", None, True, False, 0, 4, "", "abcd", (), [], right[:3], right + ((),), list(right), (right,))
        for k in range(4):
            for part in (list(right[k]), None, 0, True, "x"):
                self.wrong("form", right[:k] + (part,) + right[k + 1:])

    def test_stood(self):
        self.wrong("stood", *[(stood, WORTHS, X_AGES, ()) for stood in (
            (), ("r",), ("r", "p"), ("p", "x"), ("x",), ("r", "x"), ("r", "p", "x", "y"), ("r", "p", "x", "q"),
            ("r", "q", "x"), ("p", "r", "x"), ("r", "x", "p"), ("x", "p", "r"), ("r", "p", "x", "x"),
            ("r", "r", "p", "x"), ("r", "p", "p", "x"), ("r", "p", "x", "zz"), ("r", "p", "zz"), ("r", "p", "b"),
            ("r", "p", "b", "x"), ("r", "e"), ("r", "p", "x", "f"), ("r", "p", "x", "n"), ("r", "p", None),
            ("r", "p", 1), ("r", "p", True), ("r", "p", ("x",)), ("r", "p", ["x"]), (("r", "p", "x"),), (None,),
            ("r", ["p"], "x"), ("R", "p", "x"), ("", "r", "p", "x"),
        )])
        self.wrong("stood", *[(stood, WORTHS, V_AGES, ()) for stood in (
            ("r", "q", "s", "v"), ("r", "q", "t"), ("r", "q", "s", "t"), ("r", "q", "t", "s", "v"), ("r", "q", "v", "t"),
            ("r", "q", "s", "v", "w", "w1", "w2", "w3", "t"), ("r", "q", "s", "w", "w1", "t"),
            ("r", "q", "s", "w", "w1", "w2", "t"), ("r", "q", "s", "w", "w1", "w2", "w3", "w4", "t"),
            ("r", "q", "s", "w", "w2", "w3", "t"), ("r", "q", "s", "v", "w3", "t"), ("r", "q", "s", "v", "t", "c"),
            ("r", "q", "s", "c", "t"),
        )])

    def test_worths(self):
        self.right(*[(IN_X, worths, X_AGES, ()) for worths in ((0, -2), (3, 2), (2, -1))])
        self.wrong("worths", *[(IN_X, worths, X_AGES, ()) for worths in (
            (), (1,), (1, 0, 0), (4, 0), (-1, 0), (1, 3), (1, -3), (True, 0), (1, False), (None, 0), ("1", 0), (1, (0,)),
            (1, [0]), (10 ** 30, 0), ((1, 0),),
        )])

    def test_ages(self):
        self.right(*[(IN_X, WORTHS, (("r", one), ("x", other)), ()) for one, other in ((0, 0), (5, 6), (4, 5), (1, 3))])
        self.wrong("ages", *[(IN_X, WORTHS, ages, ()) for ages in (
            (), (("r", 0),), (("x", 0),), (("x", 0), ("r", 0)), (("r", 0), ("x", 0), ("x", 0)), (("r", 0), ("r", 0), ("x", 0)),
            (("r", 0), ("p", 0), ("x", 0)), (("r", 0), ("y", 0)), (("r", 0), ("t", 0)), (("r", 0), ("x", 0), ("t", 0)),
            (("r", 0), ("x", 7)), (("r", 6), ("x", 0)), (("r", -1), ("x", 0)), (("r", 0), ("x", -1)),
            (("r", True), ("x", 0)), (("r", 0), ("x", False)), (("r", None), ("x", 0)), (("r", "0"), ("x", 0)),
            (("r", 0), ("x", (0,))), (["r", 0], ("x", 0)), (("r", 0), ["x", 0]), (("r",), ("x", 0)),
            (("r", 0), ("x", 0, 0)), (("r", 0), "x0"), (None, ("x", 0)), (0, 0), (("r", 0), ("zz", 0)), (("r", 0), (0, "x")),
            (("r", 0), (["x"], 0)), (("r", 0), (None, 0)), (("r", 10 ** 30), ("x", 0)),
        )])
        self.wrong("ages", (IN_Y, WORTHS, X_AGES, ()), (IN_Y, WORTHS, (), ()), (IN_V, WORTHS, (("r", 0), ("t", 0)), ()),
                   (IN_V, WORTHS, (("r", 0), ("v", 3), ("t", 0)), ()), (IN_V, WORTHS, (("r", 0), ("t", 0), ("v", 0)), ()),
                   (IN_V, WORTHS, (("r", 0), ("v", 0), ("t", 101)), ()))

    def kept(self, *kept):
        return (IN_X, WORTHS, X_AGES, kept)

    def test_kept(self):
        self.right(self.kept(*ALL_KEPT), self.kept(("b", ("x",))), self.kept(("e", ("p",))), self.kept(("f", ("p", "y"))),
                   self.kept(("f", ("q", "s", "w", "w1", "w2", "w4", "t"))), self.kept(("c", ("v",)), ("e", ("p",))))
        self.wrong("kept", *[self.kept(pair) for pair in (
            None, 1, True, "bx", (), ("b",), ("b", ("x",), ()), ["b", ("x",)], ("b", ["x"]), ("b", "x"), ("b", None),
            (None, ("x",)), (["b"], ("x",)), ("x", ("x",)), ("p", ("x",)), ("zz", ("x",)), ("r", ("p",)), ("n", ("x",)),
        )])

    def test_what_a_back_keeps(self):
        self.wrong("kept", *[self.kept(("b", names)) for names in (
            (), ("x", "y"), ("x", "x"), ("b",), ("d",), ("p",), ("q",), ("zz",), (None,), (1,), (["x"],), (("x",),), ("r",),
        )])
        self.wrong("kept", self.kept(("e", ("x",))), self.kept(("e", ("q", "s"))), self.kept(("e", ("f",))),
                   self.kept(("e", ("e",))), self.kept(("e", ("r",))))

    def test_what_a_deep_keeps(self):
        self.wrong("kept", *[self.kept(("d", names)) for names in (
            (), ("x", "y"), ("b",), ("x", "x"), ("p", "x"), ("zz",), (None,), (["x"],),
        )])
        self.wrong("kept", *[self.kept(("c", names)) for names in (
            (), ("w",), ("w", "w1"), ("w", "w1", "w2"), ("w", "w2", "w3"), ("w1", "w2", "w3"), ("w", "w2", "w3", "w1"),
            ("w", "w1", "w2", "w3", "w4"), ("v", "w", "w1", "w2", "w3"), ("v", "v"), ("s", "v"), ("w", "w1", "w2", "w3", "c"),
            ("v", "t"), ("w", "w1", "w2", "w3", "w3"), ("w", "w1", "w2", ["w3"]),
        )])
        self.wrong("kept", *[self.kept(("f", names)) for names in (
            ("p",), ("r", "p", "x"), ("q", "s", "v"), ("q", "t"), ("p", "b"), ("p", "x", "e"),
        )])

    def test_markers_in_order_and_once(self):
        b, d, c, e, f = ALL_KEPT
        self.right(self.kept(b, d), self.kept(b, e), self.kept(d, c, f))
        self.wrong("kept", self.kept(d, b), self.kept(b, b), self.kept(b, ("b", ("x",))), self.kept(b, d, b),
                   self.kept(e, c), self.kept(f, e), self.kept(b, d, c, f, e))

    def test_the_first_that_is_wrong(self):
        bad_stood, bad_worths, bad_ages, bad_kept = ("r",), (9, 9), (("r", 9),), (("b", ()),)
        self.wrong("form", (bad_stood, bad_worths, bad_ages, None))
        self.wrong("stood", (bad_stood, bad_worths, bad_ages, bad_kept))
        self.wrong("worths", (IN_X, bad_worths, bad_ages, bad_kept))
        self.wrong("ages", (IN_X, WORTHS, bad_ages, bad_kept))
        self.wrong("kept", (IN_X, WORTHS, X_AGES, bad_kept))

    def test_a_root_that_is_an_all(self):
        every = read_chart(["all r", "  leaf x", "  one p", "    leaf y", "    leaf z"])
        self.assertIsNone(standing_wrong(every, (("r", "x", "p", "z"), (), (), ())))
        for stood in (("r", "x"), ("r", "x", "p"), ("r", "p", "y"), ("x", "p", "y"), ("r", "x", "p", "y", "z"), ("r",)):
            self.assertEqual(standing_wrong(every, (stood, (), (), ())), ("stood",))
        self.assertEqual(standing_wrong(every, (("r", "x", "p", "y"), (1,), (), ())), ("worths",))

    def test_deep_things(self):
        deep = ()
        for _ in range(5000):
            deep = (deep,)
        self.wrong("form", deep)
        self.wrong("stood", (deep, WORTHS, X_AGES, ()), (("r", "p", deep), WORTHS, X_AGES, ()))
        self.wrong("worths", (IN_X, deep, X_AGES, ()), (IN_X, (1, deep), X_AGES, ()))
        self.wrong("ages", (IN_X, WORTHS, deep, ()), (IN_X, WORTHS, (("r", 0), ("x", deep)), ()))
        self.wrong("kept", self.kept(deep), self.kept(("b", deep)), self.kept(("d", (deep,))), self.kept((deep, ("x",))))

    def test_no_chart(self):
        for thing, wrong in ((None, ("chart",)), (((), (), stand("r")), ("root",)), (list(CHART), ("chart",))):
            with self.assertRaises(NoChart) as caught:
                standing_wrong(thing, None)
            self.assertEqual(caught.exception.wrong, wrong)


class TestAllNames(unittest.TestCase):
    """Of all choices of names, in order, just those may be stood in that have one of each one and all of each all."""

    CHART = read_chart([
        "one top", "  all r", "    one p", "      leaf x", "      leaf y", "    all q", "      leaf u", "      leaf v",
        "    one o", "      one i", "        leaf a", "        leaf b", "      leaf c", "  deep d",
    ])
    NAMES = ("top", "r", "p", "x", "y", "q", "u", "v", "o", "i", "a", "b", "c", "d")

    def wanted(self):
        inner = (("i", "a"), ("i", "b"), ("c",))
        return {("top", "r", "p", x, "q", "u", "v", "o", *rest) for x in "xy" for rest in inner}

    def test_stood(self):
        found = set()
        for many in range(len(self.NAMES) + 1):
            for stood in combinations(self.NAMES, many):
                told = standing_wrong(self.CHART, (stood, (), (), ()))
                self.assertIn(told, (None, ("stood",)))
                if told is None:
                    found.add(stood)
        self.assertEqual(found, self.wanted())

    def test_kept(self):
        stood = sorted(self.wanted())[0]
        found = set()
        for many in range(len(self.NAMES) + 1):
            for names in combinations(self.NAMES, many):
                told = standing_wrong(self.CHART, (stood, (), (), (("d", names),)))
                self.assertIn(told, (None, ("kept",)))
                if told is None:
                    found.add(("top", *names))
        self.assertEqual(found, self.wanted())


if __name__ == "__main__":
    unittest.main()
