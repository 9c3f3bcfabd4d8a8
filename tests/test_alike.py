"""alike, alike_wrong: points 50 and 51."""

import unittest

from deepstands.alike import alike, alike_wrong
from deepstands.charts import chart_wrong
from deepstands.errors import Beyond, Endless, NoChart, TooGreat, Unlike
from deepstands.texts import read_chart
from deepstands.trials import less

from drawn import Drawn, begins
from helpers import chart, one, stand
from slow import Slow, renamed, side_by_side
from test_looking import at, places, replaced

# The same told by stands, by a fact, and by both; a says how often it came, b is refused behind the second one.
STANDS = read_chart(["fact m 0 0 0", "on a", "on b", "one r", "  leaf x", "    go on a do say n 1 to y", "  leaf y",
                     "    go on a do say n 2 to z", "  leaf z", "    go on b do set m 1"])
COUNTS = read_chart(["fact n 0 2 0", "on b", "on a", "all r", "  leaf w", "    go on a if n < 2 do set n n + 1, say n n",
                     "    go on b if n = 2 do set n 9"])
X, Y, Z = [(("r", name), (0,), (), ()) for name in "xyz"]
W = [(("r", "w"), (n,), (), ()) for n in range(3)]
PAIRS = [(X, W[0]), (Y, W[1]), (Z, W[2])]
# b says something behind the second a.
PARTED = read_chart(["on a", "on b", "one r", "  leaf x", "    go on a do say n 1 to y", "  leaf y",
                     "    go on a do say n 2 to z", "  leaf z", "    go on b do say m 1"])
ENDLESS = read_chart(["on b", "on a", "one r", "  leaf x", "    go on a do say n 1 to y", "  leaf y",
                      "    go on a do say n 2 to z", "  leaf z", "    go on b do raise b"])
BAD_BEGIN = chart(one("r", stand("x", into=[("set", "a", ("num", 10))])), happenings=("a", "b"))
BAD_ENDLESS = chart(one("r", stand("x", into=[("raise", "a")], moves=[(("on", "a"), ("yes",), (("raise", "a"),), ())])),
                    happenings=("b", "a"))


class Refusing(unittest.TestCase):
    def refused(self, error, ask, *args, **more):
        with self.assertRaises(error) as caught:
            ask(*args, **more)
        return caught.exception


class TestAlike(Refusing):
    def test_alike_with_happenings_in_another_order(self):
        self.assertEqual(alike(STANDS, COUNTS), ("alike", PAIRS))
        self.assertEqual(alike(COUNTS, STANDS), ("alike", [(w, x) for x, w in PAIRS]))
        self.assertIsNone(alike_wrong(STANDS, COUNTS, ("alike", PAIRS)))
        self.assertEqual(alike(STANDS, STANDS), ("alike", [(X, X), (Y, Y), (Z, Z)]))

    def test_pairs_come_in_the_order_of_the_first_ones_happenings(self):
        rows = ["one r", "  leaf x", "    go on a to y", "    go on b to z", "    go after 1 to w", "  leaf y", "  leaf z",
                "  leaf w"]
        one, other = read_chart(["on a", "on b"] + rows), read_chart(["on b", "on a"] + rows)
        names = ["x", "y", "z", "w"]
        self.assertEqual([pair[0][0][1] for pair in alike(one, other)[1]], names)
        self.assertEqual([pair[0][0][1] for pair in alike(other, one)[1]], ["x", "z", "y", "w"])

    def test_a_parting_row(self):
        """As short as can be; a refused happening stays where it is, and tells its word."""
        for one, other in ((STANDS, PARTED), (PARTED, STANDS), (STANDS, ENDLESS), (ENDLESS, COUNTS), (COUNTS, PARTED)):
            self.assertEqual(alike(one, other), ("parts", ["a", "a", "b"]))
            self.assertIsNone(alike_wrong(one, other, ("parts", ["a", "a", "b"])))
        self.assertEqual(alike(ENDLESS, ENDLESS)[0], "alike")

    def test_the_first_of_the_shortest(self):
        rows = ["one r", "  leaf x", "    go on a do say s 1 to y", "    go on b do say s 1", "  leaf y"]
        said = ["one r", "  leaf x", "    go on a do say s 2 to y", "    go on b do say s 2", "  leaf y"]
        for heads, row in ((["on a", "on b"], ["a"]), (["on b", "on a"], ["b"])):
            self.assertEqual(alike(read_chart(heads + rows), read_chart(["on b", "on a"] + said)), ("parts", row))
        # Told in another order, and told twice, is told unlike.
        for deeds in ("say s 2, say s 1", "say s 1, say s 2, say s 2", "say s 1"):
            parts = [read_chart(["on a", "one r", "  leaf x", f"    go on a do {x}"]) for x in ("say s 1, say s 2", deeds)]
            self.assertEqual(alike(*parts), ("parts", ["a"]))

    def test_begins_that_tell_unlike(self):
        quiet = read_chart(["on a", "one r", "  leaf x"])
        said = read_chart(["on a", "one r", "  leaf x", "    into say s 0"])
        self.assertEqual(alike(quiet, said), ("parts", []))
        self.assertEqual(alike(said, said)[0], "alike")
        self.assertIsNone(alike_wrong(quiet, said, ("parts", [])))

    def test_rows_go_on_behind_what_is_refused(self):
        """Both refuse a; b tells unlike then."""
        one = read_chart(["fact n 0 1 0", "on a", "on b", "one r", "  leaf x", "    go on a do set n 2",
                          "    go after 1 do raise b", "    go on b do say s 1"])
        other = read_chart(["fact n 0 1 0", "on a", "on b", "one r", "  leaf x", "    go on a do set n 2",
                            "    go after 1 do raise b", "    go on b do say s n + 2"])
        self.assertEqual(alike(one, other), ("parts", ["b"]))
        self.assertIsNone(alike_wrong(one, other, ("parts", ["a", "a", "b"])))
        self.assertIsNone(alike_wrong(one, other, ("parts", ["a", "tick"])))

    def test_too_great(self):
        self.assertEqual(alike(STANDS, COUNTS, most=3), ("alike", PAIRS))
        for most in (1, 2):
            self.assertEqual(self.refused(TooGreat, alike, STANDS, COUNTS, most=most).most, most)
        # It is refused ahead of a happening that tells unlike, where a pair would have to be noted ahead.
        self.assertEqual(alike(STANDS, PARTED, most=3), ("parts", ["a", "a", "b"]))
        self.refused(TooGreat, alike, STANDS, PARTED, most=2)
        quiet = read_chart(["on a", "on b", "one r", "  leaf x", "    go on a to y", "  leaf y"])
        said = read_chart(["on b", "on a", "one r", "  leaf x", "    go on a to y", "    go on b do say s 1", "  leaf y"])
        self.refused(TooGreat, alike, quiet, said, most=1)
        self.assertEqual(alike(said, quiet, most=1), ("parts", ["b"]))
        # Of pairs alone: one chart may well have more standings.
        long = read_chart(["on a", "on b", "one r", "  leaf x", "    go on a do say n 1 to y", "  leaf y",
                           "    go on a do say n 3 to z", "    go after 99 to z", "  leaf z"])
        self.assertEqual(alike(STANDS, long, most=4), ("parts", ["a", "a"]))

    def test_the_most_that_is_not_told(self):
        text = ["fact n 0 1999 0", "on a", "one r", "  leaf x", "    go on a if n < 1999 do set n n + 1"]
        self.assertEqual(len(alike(read_chart(text), read_chart(text))[1]), 2000)
        text[0], text[4] = "fact n 0 2000 0", "    go on a if n < 2000 do set n n + 1"
        self.assertEqual(self.refused(TooGreat, alike, read_chart(text), read_chart(text)).most, 2000)

    def test_the_order_of_refusals(self):
        for ask in (alike, lambda one, other: alike_wrong(one, other, None)):
            self.assertEqual(self.refused(NoChart, ask, None, chart(stand("r"))).wrong, ("chart",))
            self.assertEqual(self.refused(NoChart, ask, STANDS, chart(stand("r"))).wrong, ("root",))
            for happenings in ((), ("a",), ("a", "b", "c"), ("a", "c")):
                other = chart(one("r", stand("x")), happenings=happenings)
                self.refused(Unlike, ask, STANDS, other)
                self.refused(Unlike, ask, other, BAD_BEGIN)
            self.assertEqual(self.refused(Beyond, ask, BAD_BEGIN, BAD_ENDLESS).stand, "x")
            self.refused(Endless, ask, BAD_ENDLESS, BAD_BEGIN)
            self.refused(Endless, ask, STANDS, BAD_ENDLESS)
        self.refused(Beyond, alike, STANDS, BAD_BEGIN, most=1)

    def test_arguments_and_lists_that_are_changed(self):
        told = alike(most=3, other=COUNTS, one=STANDS)
        self.assertIsNone(alike_wrong(thing=told, other=COUNTS, one=STANDS))
        told[1].append("spoiled")
        self.assertEqual(alike(STANDS, COUNTS), ("alike", PAIRS))
        row = alike(STANDS, PARTED)[1]
        row.append("spoiled")
        self.assertEqual(alike(STANDS, PARTED), ("parts", ["a", "a", "b"]))
        with self.assertRaises(TypeError):
            alike(STANDS, COUNTS, 3)


class TestAlikeWrong(unittest.TestCase):
    def wrong(self, one, other, thing, wanted):
        told = alike_wrong(one, other, thing)
        self.assertEqual(told, wanted, thing)
        self.assertEqual(repr(told), repr(wanted))

    def test_things_that_are_no_paper(self):
        truth = (("r", "w"), (False,), (), ())
        for thing in (None, True, 0, "alike", (), ("alike",), ["alike", PAIRS], ("alike", PAIRS, PAIRS), ("zz", PAIRS),
                      (None, PAIRS), ("alike", None), ("alike", tuple(PAIRS)), ("alike", [None]), ("alike", [X]),
                      ("alike", [(X,)]), ("alike", [(X, W[0], X)]), ("alike", [[X, W[0]]]), ("alike", [(W[0], X)]),
                      ("alike", PAIRS + [(X, truth)]), ("alike", [(X, None)]), ("alike", ["aa"]), ("parts",),
                      ("parts", None), ("parts", ("a",)), ("parts", "a"), ("parts", ["zz"]), ("parts", [None]),
                      ("parts", ["a", "x"]), ("parts", [["a"]]), ("parts", [True]), ("parts", ["a"], []),
                      ("parts", [("tick",)]), ("parts", PAIRS)):
            self.wrong(STANDS, COUNTS, thing, ("paper",))

    def test_pairs(self):
        self.wrong(STANDS, COUNTS, ("alike", PAIRS[::-1]), None)
        self.wrong(STANDS, COUNTS, ("alike", PAIRS + PAIRS), None)
        self.wrong(STANDS, COUNTS, ("alike", []), ("begin",))
        self.wrong(STANDS, COUNTS, ("alike", PAIRS[1:]), ("begin",))
        self.wrong(STANDS, COUNTS, ("alike", PAIRS[:1]), ("open", 0, "a"))
        self.wrong(STANDS, COUNTS, ("alike", PAIRS[:2]), ("open", 1, "a"))
        self.wrong(STANDS, COUNTS, ("alike", [PAIRS[2], PAIRS[0]]), ("open", 1, "a"))
        self.wrong(STANDS, COUNTS, ("alike", PAIRS + [(X, W[1])]), ("unlike", 3, "a"))
        self.wrong(STANDS, COUNTS, ("alike", [(Z, W[1])] + PAIRS), ("unlike", 0, "a"))
        self.wrong(COUNTS, STANDS, ("alike", [(W[1], Z)] + [(w, x) for x, w in PAIRS]), ("unlike", 0, "b"))
        self.wrong(STANDS, PARTED, ("alike", [(x, (x[0], (), (), ())) for x in (X, Y, Z)]), ("unlike", 2, "b"))
        # A happening that tells unlike is told ahead of one that leads out, or behind it, by their order.
        self.wrong(STANDS, COUNTS, ("alike", [(X, W[0]), (X, W[1])]), ("open", 0, "a"))
        self.wrong(STANDS, COUNTS, ("alike", [(X, W[1]), (X, W[0])]), ("unlike", 0, "a"))

    def test_pairs_that_no_row_comes_to(self):
        lone = read_chart(["on a", "one r", "  leaf x", "  leaf y", "  leaf z", "    go on a do say s 1"])
        x, y, z = [(("r", name), (), (), ()) for name in "xyz"]
        self.wrong(lone, lone, ("alike", [(x, x)]), None)
        self.wrong(lone, lone, ("alike", [(y, x), (x, x), (x, y), (z, z)]), None)
        self.wrong(lone, lone, ("alike", [(y, x), (x, x), (x, z), (z, z)]), ("unlike", 2, "a"))

    def test_begins(self):
        quiet = read_chart(["on a", "one r", "  leaf x"])
        said = read_chart(["on a", "one r", "  leaf x", "    into say s 0"])
        x = (("r", "x"), (), (), ())
        self.wrong(quiet, said, ("alike", [(x, x)]), ("begin",))
        self.wrong(quiet, said, ("parts", []), None)
        self.wrong(quiet, said, ("parts", ["a"]), ("row",))
        self.wrong(quiet, quiet, ("parts", []), ("end",))
        self.wrong(quiet, quiet, ("parts", ["a", "tick"]), ("end",))

    def test_rows(self):
        for row in (["a", "a", "b"], ["tick", "a", "b", "a", "b"], ["a", "a", "a", "tick", "b"]):
            self.wrong(STANDS, PARTED, ("parts", row), None)
        self.wrong(STANDS, PARTED, ("parts", ["a", "b"]), ("end",))
        self.wrong(STANDS, PARTED, ("parts", ["a", "a", "b", "a"]), ("row",))
        self.wrong(STANDS, PARTED, ("parts", ["a", "a", "b", "b"]), ("row",))
        self.wrong(STANDS, PARTED, ("parts", []), ("end",))
        self.wrong(STANDS, COUNTS, ("parts", ["a", "a", "b"]), ("end",))


def changed(drawn):
    """A chart with the same happenings, in any order, that may be alike to a drawn one, or not."""
    by, told = drawn.by, drawn.chart
    pick = by.randint(0, 4)
    if pick == 0:
        told = less(told)
    elif pick == 1:
        told = (told[0], told[1], renamed(told[2], {name: f"q{k}" for k, name in enumerate(drawn.slow.plain.order)}))
    else:
        for _ in range(200):
            where = places(told[2])
            part = by.choice([at(told[2], by.choice(where)), 0, 1, 2, ("yes",), ()])
            other = (told[0], told[1], replaced(told[2], by.choice(where), part))
            if chart_wrong(other) is None and other != told:
                told = other
                break
    return (told[0], tuple(by.sample(told[1], len(told[1]))), told[2])


class TestDrawn(Refusing):
    def test_alike_and_its_judge(self):
        """alike tells what slow.py tells, and alike_wrong lets it by."""
        seen = {"alike": 0, "parts": 0, "great": 0}
        for seed in range(150):
            drawn = Drawn(seed, least=2)
            other = changed(drawn)
            if not begins(other):
                continue
            for most in (1, 2, 4, 30):
                wanted = side_by_side(drawn.slow, Slow(other), most)
                if wanted == "great":
                    self.refused(TooGreat, alike, drawn.chart, other, most=most)
                    seen["great"] += 1
                    continue
                told = alike(drawn.chart, other, most=most)
                self.assertEqual(told, wanted)
                self.assertIsNone(alike_wrong(drawn.chart, other, told))
                seen[told[0]] += bool(told[1])
        self.assertGreater(min(seen.values()), 30)

    def test_spoiled_papers(self):
        seen = {}
        for seed in range(100):
            drawn = Drawn(seed, least=2)
            other = changed(drawn)
            if not begins(other):
                continue
            slow = Slow(other)
            wanted = side_by_side(drawn.slow, slow, 30)
            pairs = wanted[1] if wanted[0] == "alike" else [(drawn.slow.begin()[0], slow.begin()[0])]
            for _ in range(6):
                paper = ("parts", drawn.row()) if drawn.by.randint(0, 1) else ("alike", drawn.spoiled_rows(pairs, False))
                told = alike_wrong(drawn.chart, other, paper)
                self.assertEqual(told, self.judged(drawn.slow, slow, paper), paper)
                seen[told and told[0]] = seen.get(told and told[0], 0) + 1
        for answer in (None, "paper", "begin", "unlike", "open", "row", "end"):
            self.assertGreater(seen.get(answer, 0), 0, seen)

    def judged(self, one, other, paper):
        """What alike_wrong tells of pairs of standings, and rows of happenings."""
        same = one.begin()[1] == other.begin()[1]
        pair = (one.begin()[0], other.begin()[0])
        if paper[0] == "parts":
            for happening in paper[1]:
                if not same:
                    return ("row",)
                same = one.tells(pair[0], happening) == other.tells(pair[1], happening)
                pair = (one.after(pair[0], happening), other.after(pair[1], happening))
            return ("end",) if same else None
        for thing in paper[1]:
            if not isinstance(thing, tuple) or len(thing) != 2 or not isinstance(thing[1], tuple) or len(thing[1]) != 4:
                return ("paper",)
        if not all(thing[0] in one.from_there(one.begin()[0]) for thing in paper[1]):
            return ("paper",)
        if not same or pair not in paper[1]:
            return ("begin",)
        for k, (first, second) in enumerate(paper[1]):
            for happening in one.happenings:
                if one.tells(first, happening) != other.tells(second, happening):
                    return ("unlike", k, happening)
                if (one.after(first, happening), other.after(second, happening)) not in paper[1]:
                    return ("open", k, happening)
        return None


if __name__ == "__main__":
    unittest.main()
