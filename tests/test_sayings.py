"""saying_wrong: point 20; what is refused ahead of sayings and behind them."""

import unittest

from deepstands.errors import Beyond, Endless, NoChart, NoSaying
from deepstands.sayings import judged, saying_wrong, settled
from deepstands.texts import read_chart

from helpers import YES, chart, guard_of, move, one, stand, term_of

CHART = read_chart(["fact n 0 3 0", "fact m -2 2 0", "on a", "on b", "one r", "  leaf x", "    go on a do say s n to y",
                    "  one y", "    leaf z", "    back k", "  deep d"])
G = ("in", "y")
DEEP_GUARD = guard_of(10)
NO_SAYINGS = [
    None, True, 0, 1, "", "never", (), [], ("never",), ("never", G, G), ["never", G], ("zz", G), (None, G), (G, G),
    (("never",), G), ("unsaid",), ("unsaid", "s", "s"), ("unrefused",), ("behind", None, G), ("behind", None, G, G, G),
    ("before", G), ("before", G, G, G), ("within", G, G), ("within", G, G, 1, 1), ("can", G), ("can", G, G, G),
    ("always", G), ((), G), ("Never", G), (1, G), (["never"], G), ("never", G, None), ("yes",), ("in", "y"),
]
# Each where one thing is wrong, and where.
PATHS = [
    (("never", None), (1,)), (("never", True), (1,)), (("never", ()), (1,)), (("never", "yes"), (1,)),
    (("never", ["yes"]), (1,)), (("never", ("yes", 1)), (1,)), (("never", ("zz",)), (1,)), (("never", (None,)), (1,)),
    (("never", ("in",)), (1,)), (("never", ["in", "y"]), (1,)), (("never", ("in", "y", "y")), (1,)),
    (("never", ("in", "zz")), (1, 1)), (("never", ("in", "k")), (1, 1)), (("never", ("in", "d")), (1, 1)),
    (("never", ("in", None)), (1, 1)), (("never", ("in", ["y"])), (1, 1)), (("never", ("in", ("y",))), (1, 1)),
    (("never", ("in", "n")), (1, 1)), (("never", ("in", "a")), (1, 1)), (("never", ("in", "Y")), (1, 1)),
    (("never", ("not", None)), (1, 1)), (("never", ("not",)), (1,)), (("never", ("not", G, G)), (1,)),
    (("never", ("both", G)), (1,)), (("never", ("both", G, ("in", "zz"))), (1, 2, 1)),
    (("never", ("either", [], G)), (1, 1)), (("never", ("either", G, ())), (1, 2)),
    (("never", ("below", ("num", 1), YES)), (1, 2)), (("never", ("below", YES, ("num", 1))), (1, 1)),
    (("never", ("same", ("num", 1), ("num", True))), (1, 2, 1)), (("never", ("same", ("num", -1), YES)), (1, 1, 1)),
    (("never", ("same", ("num", 10 ** 9), YES)), (1, 1, 1)), (("never", ("same", ("num", "1"), YES)), (1, 1, 1)),
    (("never", ("same", ("num", None), YES)), (1, 1, 1)), (("never", ("same", ("num", False), YES)), (1, 1, 1)),
    (("never", ("same", ("fact", "x"), YES)), (1, 1, 1)), (("never", ("same", ("fact", ["n"]), YES)), (1, 1, 1)),
    (("never", ("same", ("fact",), YES)), (1, 1)), (("never", ("same", ["num", 1], YES)), (1, 1)),
    (("never", ("same", ("num", 1, 1), YES)), (1, 1)), (("never", ("same", ("sum", ("num", 1)), YES)), (1, 1)),
    (("never", ("same", ("less", ("num", 1), ("zz", 1)), YES)), (1, 1, 2)),
    (("never", ("same", ("not", ("num", 1)), YES)), (1, 1)), (("never", ("sum", ("num", 1), ("num", 1))), (1,)),
    (("unsaid", None), (1,)), (("unsaid", "fact"), (1,)), (("unsaid", "Zz"), (1,)), (("unsaid", ""), (1,)),
    (("unsaid", "abcdefghi"), (1,)), (("unsaid", "1a"), (1,)), (("unsaid", ["s"]), (1,)), (("unsaid", True), (1,)),
    (("unrefused", "x"), (1,)), (("unrefused", ""), (1,)), (("unrefused", True), (1,)), (("unrefused", ["a"]), (1,)),
    (("unrefused", ("on", "a")), (1,)), (("unrefused", ("tick",)), (1,)), (("unrefused", 0), (1,)),
    (("behind", "zz", G, G), (1,)), (("behind", G, G, G), (1,)), (("behind", "a", None, G), (2,)),
    (("behind", "a", G, None), (3,)), (("behind", None, G, ("in", "zz")), (3, 1)), (("behind", False, G, G), (1,)),
    (("before", None, G), (1,)), (("before", G, None), (2,)), (("can", None, G), (1,)), (("can", G, None), (2,)),
    (("within", None, G, 1), (1,)), (("within", G, None, 1), (2,)), (("within", G, G, None), (3,)),
    (("within", G, G, -1), (3,)), (("within", G, G, 100), (3,)), (("within", G, G, True), (3,)),
    (("within", G, G, False), (3,)), (("within", G, G, "1"), (3,)), (("within", G, G, [1]), (3,)),
]
# Each where two things are wrong, and where the first one is.
TWICE = [
    (("never", ("both", ("in", "zz"), None)), (1, 1, 1)), (("behind", "zz", None, None), (1,)),
    (("behind", "a", ("in", "zz"), None), (2, 1)), (("within", G, ("not", ("in", "zz")), -1), (2, 1, 1)),
    (("before", ("in", "zz"), ("in", "zz")), (1, 1)), (("never", ("below", ("num", -1), ("num", -1))), (1, 1, 1)),
    (("never", ("same", ("sum", None, ("fact", "zz")), None)), (1, 1, 1)), (("within", G, [], True), (2,)),
    (("never", ("either", ("either", G, ("in", "k")), ("in", "zz"))), (1, 1, 2, 1)),
]
SAYINGS = [
    ("never", G), ("never", YES), ("never", ("not", ("in", "r"))), ("unsaid", "s"), ("unsaid", "zz"), ("unsaid", "tick"),
    ("unsaid", "n"), ("unrefused", None), ("unrefused", "a"), ("unrefused", "tick"), ("behind", None, G, YES),
    ("behind", "tick", G, YES), ("behind", "b", G, YES), ("before", G, YES), ("within", G, YES, 0),
    ("within", G, G, 99), ("can", G, ("below", ("num", 999999999), ("sum", ("fact", "n"), ("fact", "m")))),
    ("never", ("same", ("num", 0), ("less", ("num", 1), ("num", 1)))), ("never", DEEP_GUARD),
]


class TestSayingWrong(unittest.TestCase):
    def test_sayings(self):
        for saying in SAYINGS:
            self.assertIsNone(saying_wrong(CHART, saying), saying)

    def test_no_sayings_at_all(self):
        for thing in NO_SAYINGS:
            told = saying_wrong(CHART, thing)
            self.assertEqual(told, (), thing)
            self.assertIsInstance(told, tuple)

    def test_paths(self):
        for thing, path in PATHS + TWICE:
            told = saying_wrong(CHART, thing)
            self.assertEqual(told, path, thing)
            self.assertEqual([type(part) for part in told], [int] * len(path))

    def test_each_word_tells_of_each_of_its_places(self):
        for saying in SAYINGS:
            for k in range(1, len(saying)):
                thing = saying[:k] + (["zz"],) + saying[k + 1:]
                self.assertEqual(saying_wrong(CHART, thing), (k,), thing)

    def test_ten_and_eleven_within_one_another(self):
        self.assertIsNone(saying_wrong(CHART, ("never", guard_of(10))))
        self.assertEqual(saying_wrong(CHART, ("never", guard_of(11))), (1,) * 11)
        self.assertEqual(saying_wrong(CHART, ("before", YES, guard_of(12))), (2,) + (1,) * 10)
        self.assertIsNone(saying_wrong(CHART, ("never", ("same", term_of(9), ("num", 1)))))
        # The first part of each sum is the sum within it.
        self.assertEqual(saying_wrong(CHART, ("never", ("same", term_of(10), ("num", 1)))), (1,) * 11)
        self.assertIsNone(saying_wrong(CHART, ("can", YES, guard_of(10, ("in", "x")))))
        self.assertEqual(saying_wrong(CHART, ("can", YES, guard_of(11, ("in", "zz")))), (2,) + (1,) * 10)
        self.assertEqual(saying_wrong(CHART, ("can", YES, guard_of(10, ("in", "zz")))), (2,) + (1,) * 10)
        self.assertEqual(saying_wrong(CHART, ("within", guard_of(11), YES, -1)), (1,) * 11)
        five = guard_of(5, ("below", term_of(5), term_of(6)))
        self.assertEqual(saying_wrong(CHART, ("never", five)), (1,) * 5 + (2,) + (1,) * 5)

    def test_things_that_are_deep(self):
        deep = ()
        for _ in range(5000):
            deep = (deep,)
        for thing, path in (((deep), ()), (("never", deep), (1,)), (("never", ("not", deep)), (1, 1)),
                            (("never", ("in", deep)), (1, 1)), (("unsaid", deep), (1,)),
                            (("unrefused", deep), (1,)), (("within", YES, YES, deep), (3,))):
            self.assertEqual(saying_wrong(CHART, thing), path)

    def test_what_is_handed_in_stays(self):
        thing = ("never", ["yes", [1]])
        saying_wrong(CHART, thing)
        self.assertEqual(thing, ("never", ["yes", [1]]))

    def test_a_chart_without_facts_and_happenings(self):
        bare = chart(one("r", stand("x")), facts=(), happenings=())
        self.assertIsNone(saying_wrong(bare, ("unrefused", "tick")))
        self.assertEqual(saying_wrong(bare, ("unrefused", "h")), (1,))
        self.assertEqual(saying_wrong(bare, ("never", ("same", ("fact", "a"), YES))), (1, 1, 1))


class TestOrder(unittest.TestCase):
    """NoSaying is behind NoChart, and ahead of what start refuses; saying_wrong is refused with NoChart alone."""

    def refused(self, error, ask, *args):
        with self.assertRaises(error) as caught:
            ask(*args)
        return caught.exception

    def test_no_chart_first(self):
        for ask in (settled, lambda c, s: judged(c, s, ("holds", [])), saying_wrong):
            self.assertEqual(self.refused(NoChart, ask, None, None).wrong, ("chart",))
            self.assertEqual(self.refused(NoChart, ask, chart(stand("r")), ("never", G)).wrong, ("root",))

    def test_no_saying_then(self):
        beyond = chart(one("r", stand("x", into=[("set", "a", ("num", 10))])))
        endless = chart(one("r", stand("x", into=[("raise", "h")], moves=[move(deeds=[("raise", "h")])])))
        for ask in (settled, lambda c, s: judged(c, s, None)):
            for thing, path in ((None, ()), (("never", ("in", "zz")), (1, 1)), (("unsaid", "say"), (1,))):
                for refusing in (CHART, beyond, endless):
                    self.assertEqual(self.refused(NoSaying, ask, refusing, thing).wrong, path)
            error = self.refused(Beyond, ask, beyond, ("never", YES))
            self.assertEqual((error.fact, error.stand), ("a", "x"))
            self.refused(Endless, ask, endless, ("unsaid", "s"))
        self.assertIsNone(saying_wrong(beyond, ("never", YES)))


if __name__ == "__main__":
    unittest.main()
