"""chart_wrong: points 9 and 10."""

import unittest

from deepstands.charts import chart_wrong

from helpers import YES, both, chain, chart, guard_of, move, one, stand, term_of

N1 = ("num", 1)
GREAT = 999999999


def rooted(*stands, **more):
    return chart(one("r", *stands, **more))


class Wrongs(unittest.TestCase):
    def wrong(self, wanted, *things):
        for thing in things:
            with self.subTest(thing=thing):
                told = chart_wrong(thing)
                self.assertEqual(told, wanted)
                self.assertIs(type(told), type(wanted))

    def leaf_is_wrong(self, *leafs):
        """Each is none by its own form, as the root's second stand."""
        for leaf in leafs:
            self.wrong(("stand", (1,)), rooted(stand("x"), leaf, stand("y")))

    def right(self, *things):
        self.wrong(None, *things)


class TestForm(Wrongs):
    def test_no_charts_at_all(self):
        self.wrong(("chart",), None, True, False, 0, 7, "", "chart", (), [], ((),), ((), ()), ((), (), stand("r"), ()))
        root = one("r", stand("x"))
        self.right(((), (), root))
        self.wrong(("chart",), [(), (), root], ([], (), root), ((), [], root), (None, (), root), ((), "", root),
                   ("", (), root), (root,), (1, 2, 3))

    def test_facts(self):
        root = one("r", stand("x"))
        self.right(chart(root, facts=(("a", 0, 0, 0), ("b", -GREAT, GREAT, 5), ("c", 1, 3, 3), ("d", 1, 3, 1))))
        for fact in (
            None, (), "a", ["b", 0, 1, 0], ("b", 0, 1), ("b", 0, 1, 0, 0), ("B", 0, 1, 0), ("", 0, 1, 0),
            ("on", 0, 1, 0), (1, 0, 1, 0), (None, 0, 1, 0), (["b"], 0, 1, 0), ("abcdefghi", 0, 1, 0), ("1a", 0, 1, 0),
            ("a_", 0, 1, 0), ("a b", 0, 1, 0), ("\u00e9", 0, 1, 0), ("a\u0661", 0, 1, 0),
            ("b", False, 1, 0), ("b", 0, True, 0), ("b", 0, 1, False), ("b", "0", 1, 0), ("b", 0, None, 0),
            ("b", 0, 1, (0,)), ("b", 1, 0, 0), ("b", 1, 0, 1), ("b", 0, 1, 2), ("b", 0, 1, -1),
            ("b", -GREAT - 1, 0, 0), ("b", 0, GREAT + 1, 0), ("b", 0, GREAT + 1, GREAT + 1),
        ):
            self.wrong(("fact", 1), chart(root, facts=(("a", 0, 9, 1), fact, None)))

    def test_happenings(self):
        root = one("r", stand("x"))
        self.right(chart(root, happenings=("a", "abcdefgh", "t1ck", "ticks")))
        for happening in ("tick", "", "A", "go", "abcdefghi", None, 1, True, ("h",), ["h"]):
            self.wrong(("happening", 2), chart(root, happenings=("h", "k", happening, None)))

    def test_stands_of_six(self):
        self.wrong(("stand", ()), *[
            ((), (), root) for root in (
                None, 1, True, "", "r", (), [], ("r",), list(one("r", stand("x"))), one("r", stand("x"))[:5],
                one("r", stand("x")) + ((),), [one("r", stand("x"))],
            )
        ])
        self.leaf_is_wrong(None, "", 5, (), stand("z")[:5], stand("z") + ((),), list(stand("z")))

    def test_names_and_sorts(self):
        self.leaf_is_wrong(*[stand(name) for name in (
            "", "Z", "z_", "back", "yes", "abcdefghi", "0", None, 0, True, ("z",), ["z"], "\u00e9", "z\u00df", "z\u0661",
            "zZ", "0z", "z z", " z", "z\n", "_", "_z",
        )])
        self.leaf_is_wrong(*[stand("z", sort) for sort in ("", "Leaf", "fact", None, 1, True, ("leaf",), ["leaf"])])
        self.right(rooted(stand("tick"), stand("z1234567")))

    def test_what_each_sort_may_have(self):
        self.leaf_is_wrong(one("z"), both("z"))
        for sort in ("leaf", "end", "back", "deep"):
            self.leaf_is_wrong(stand("z", sort, [stand("w")]), stand("z", sort, [None]))
            self.leaf_is_wrong(("z", sort, [], (), (), ()), ("z", sort, None, (), (), ()), ("z", sort, "", (), (), ()))
        self.leaf_is_wrong(("z", "one", [stand("w")], (), (), ()))
        for sort in ("back", "deep"):
            self.right(rooted(stand("x"), stand("z", sort)))
            self.leaf_is_wrong(stand("z", sort, into=[("raise", "h")]), stand("z", sort, out=[("raise", "h")]),
                               stand("z", sort, moves=[move()]))
        for sort in ("leaf", "end"):
            self.right(rooted(stand("x"), stand("z", sort, (), [("raise", "h")], [("raise", "h")], [move()])))

    def test_lists_in_the_place_of_tuples(self):
        self.leaf_is_wrong(("z", "leaf", (), [], (), ()), ("z", "leaf", (), (), [], ()), ("z", "leaf", (), (), (), []))
        self.leaf_is_wrong(stand("z", into=[["raise", "h"]]), stand("z", out=[["raise", "h"]]),
                           stand("z", moves=[list(move())]))
        self.leaf_is_wrong(*[stand("z", moves=[wrong]) for wrong in (
            (["on", "h"], YES, (), ()), (("on", "h"), ["yes"], (), ()), (("on", "h"), YES, [], ()),
            (("on", "h"), YES, (), []), (("on", "h"), YES, (["raise", "h"],), ()),
            (("on", "h"), ("not", ["yes"]), (), ()), (("on", "h"), ("below", ["num", 1], N1), (), ()),
        )])

    def test_deeds(self):
        for deed in (
            None, "", 1, (), ("raise",), ("raise", "h", "h"), ("raise", 1), ("raise", "H"), ("raise", None),
            ("raise", ["h"]), ("set", "a"), ("set", "a", 1), ("set", "a", N1, N1), ("set", "A", N1), ("set", N1, "a"),
            ("set", "a", YES), ("say", "a"), ("say", "end", N1), ("say", 1, N1), ("say", ["s"], N1),
            ("say", None, N1), ("set", ["a"], N1), ("do", "a", N1), ("num", 1),
            (None, "a"), (["set"], "a", N1), ("yes",), ("on", "h"),
        ):
            self.leaf_is_wrong(stand("z", into=[("raise", "h"), deed]), stand("z", out=[deed]),
                               stand("z", moves=[move(deeds=[deed])]))

    def test_any_name_will_do_in_a_when_and_a_raise(self):
        self.wrong(("happening", "x", 0), rooted(stand("x", into=[("raise", "tick")])))
        self.wrong(("happening", "x", 2), rooted(stand("x", moves=[move(("on", "tick"))])))
        self.right(rooted(stand("x", into=[("say", "tick", N1), ("say", "zz", N1)])))

    def test_moves(self):
        good = move(("after", 1))
        self.leaf_is_wrong(*[stand("z", moves=[good, wrong]) for wrong in (
            None, (), "", 7, good[:3], good + ((),), (good,),
        )])
        for when in (
            None, "", "done", (), ("on",), ("on", 1), ("on", "H"), ("on", "h", "h"), ("after",), ("after", 0),
            ("after", 100), ("after", -1), ("after", True), ("after", "1"), ("after", None), ("after", 1, 1), ("done", "x"),
            ("tick",), ("tick", "x"), ("done", ()), (None,), (["on"], "h"), ("raise", "h"),
        ):
            self.leaf_is_wrong(stand("z", moves=[move(when)]))
        self.right(rooted(stand("z", moves=[move(("after", 1)), move(("after", 99))])))
        for goals in (None, "", "x", ["x"], 1, ("x", 1), ("X",), (None,), (("x",),), ("end",), (["x"],), ("x", ["x"])):
            self.leaf_is_wrong(stand("z", moves=[(("on", "h"), YES, (), goals)]))

    def test_guards(self):
        for guard in (
            None, True, "", "yes", (), ("yes", "yes"), ("no",), ("in",), ("in", 1), ("in", ["x"]), ("in", "X"),
            ("in", "x", "x"),
            ("in", "end"), ("in", YES), ("below",), ("below", N1), ("below", N1, N1, N1), ("below", YES, N1),
            ("below", N1, YES), ("below", 1, 2), ("same", N1), ("same", N1, "a"), ("same", N1, N1, N1), ("not",),
            ("not", YES, YES), ("not", N1), ("not", "yes"), ("both", YES), ("both", YES, N1), ("both", N1, YES),
            ("both", YES, YES, YES), ("either", YES), ("either", YES, None), ("either", YES, YES, YES), N1,
            ("fact", "a"), ("sum", N1, N1), (None,), (1, 2), (["yes"],), (("yes",),), ("done",), ("after", 1),
        ):
            self.leaf_is_wrong(stand("z", moves=[move(guard=guard)]))

    def test_terms(self):
        for term in (
            None, 1, True, "a", (), ("num",), ("num", -1), ("num", GREAT + 1), ("num", True), ("num", False), ("num", "1"),
            ("num", None), ("num", 1, 1), ("num", N1), ("fact",), ("fact", 1), ("fact", "A"), ("fact", "a", "a"),
            ("sum", N1), ("sum", N1, 1), ("sum", 1, N1), ("sum", N1, N1, N1), ("less", N1), ("less", N1, YES),
            ("less", N1, N1, N1), YES, ("in", "x"), ("below", N1, N1), ("neg", N1), [], ["num", 1], ("set", "a", N1),
        ):
            self.leaf_is_wrong(stand("z", into=[("set", "a", term)]), stand("z", out=[("say", "s", term)]),
                               stand("z", moves=[move(guard=("below", term, N1))]),
                               stand("z", moves=[move(guard=("same", N1, term))]))
        self.right(rooted(stand("z", into=[("set", "a", ("num", GREAT)), ("say", "s", ("num", 0))])))

    def test_at_most_ten_within_one_another(self):
        self.right(
            rooted(stand("z", into=[("set", "a", term_of(10))])), rooted(stand("z", out=[("say", "a", term_of(10))])),
            rooted(stand("z", moves=[move(guard=guard_of(10))])),
            rooted(stand("z", moves=[move(guard=guard_of(5, ("below", term_of(5), N1)))])),
            rooted(stand("z", moves=[move(guard=guard_of(9, ("same", N1, N1)))])),
            rooted(stand("z", moves=[move(deeds=[("set", "a", term_of(10))])])),
        )
        self.leaf_is_wrong(
            stand("z", into=[("set", "a", term_of(11))]), stand("z", out=[("say", "a", term_of(11))]),
            stand("z", moves=[move(guard=guard_of(11))]),
            stand("z", moves=[move(guard=guard_of(6, ("below", term_of(5), N1)))]),
            stand("z", moves=[move(guard=guard_of(10, ("same", N1, N1)))]),
            stand("z", moves=[move(deeds=[("set", "a", term_of(11))])]),
            stand("z", moves=[move(guard=guard_of(3000))]), stand("z", into=[("set", "a", term_of(3000))]),
        )

    def test_the_first_stand_that_is_none(self):
        inner = one("p", stand("x"), stand("Y"), stand("Z"))
        self.wrong(("stand", (1, 1)), rooted(stand("a"), inner, stand("B")))
        self.wrong(("stand", (0,)), rooted(stand("A"), inner))
        self.wrong(("stand", (1,)), rooted(stand("a"), ("p", "one", (None,), (), (), None)))
        self.wrong(("stand", (0, 0, 0)), rooted(one("p", both("q", None, None))))
        self.wrong(("stand", ()), chart(one("R", None)))

    def test_forms_come_in_order(self):
        self.wrong(("fact", 0), ((None, None), (None,), None))
        self.wrong(("happening", 0), ((), (None, None), None))
        self.wrong(("stand", ()), ((), (), None))
        self.wrong(("fact", 1), ((("a", 0, 1, 0), 1), ("tick",), None))
        self.wrong(("chart",), ((None,), None, None))
        self.wrong(("stand", (60,)), rooted(*[stand(f"x{k}") for k in range(60)], None))
        self.wrong(("fact", 13), chart(one("r", stand("x")), facts=[(f"a{k}", 0, 1, 0) for k in range(13)] + [None]))


class TestBounds(Wrongs):
    def test_facts_and_happenings(self):
        root = one("r", stand("x"))
        facts = [(f"a{k}", 0, 1, 0) for k in range(13)]
        self.right(chart(root, facts=facts[:12]))
        self.wrong(("great",), chart(root, facts=facts))
        happenings = [f"h{k}" for k in range(21)]
        self.right(chart(root, happenings=happenings[:20]))
        self.wrong(("great",), chart(root, happenings=happenings))

    def test_stands(self):
        stands = [stand(f"x{k}") for k in range(60)]
        self.right(rooted(*stands[:59]), rooted(one("p", *stands[:58])))
        self.wrong(("great",), rooted(*stands), rooted(one("p", *stands[:59])))

    def test_deep(self):
        self.right(chart(chain(10)), chart(chain(10, "all")))
        self.wrong(("great",), chart(chain(11)), chart(chain(11, "all")), chart(chain(61)), chart(chain(900)))
        # However deep it is, it is looked over.
        self.wrong(("great",), chart(chain(20000)))

    def test_moves(self):
        self.right(rooted(stand("x", moves=[move()] * 120)))
        self.wrong(("great",), rooted(stand("x", moves=[move()] * 121)))
        root = [stand(f"x{k}", moves=[move()] * 30) for k in range(4)]
        self.right(rooted(*root))
        self.wrong(("great",), rooted(*root, moves=[move()]))

    def test_great_comes_ahead_of_names(self):
        self.wrong(("great",), chart(one("r", stand("r")), happenings=["h"] * 21))
        self.wrong(("great",), rooted(stand("r", moves=[move(("on", "k"))] * 121)))


class TestNames(Wrongs):
    def test_twice(self):
        root = one("r", stand("d"), stand("b"))
        self.right(chart(root, facts=(("c", 0, 1, 0),), happenings=("b", "c", "r")))
        self.wrong(("twice", "c"), chart(root, facts=(("c", 0, 1, 0), ("c", 0, 1, 0), ("b", 0, 1, 0))))
        self.wrong(("twice", "b"), chart(root, facts=(("c", 0, 1, 0), ("b", 0, 1, 0))))
        self.wrong(("twice", "r"), chart(root, facts=(("d", 0, 1, 0), ("r", 0, 1, 0))))
        self.wrong(("twice", "r"), chart(one("r", one("p", stand("r")), stand("p"))))
        self.wrong(("twice", "x"), chart(one("r", one("p", stand("x")), stand("x"), stand("p"))))
        self.wrong(("twice", "k"), chart(root, happenings=("h", "k", "k", "h")))
        self.wrong(("twice", "h"), chart(root, happenings=("h", "k", "h", "k")))
        self.wrong(("twice", "r"), chart(one("r", stand("r")), happenings=("h", "h")))

    def test_root(self):
        for sort in ("leaf", "end", "back", "deep"):
            self.wrong(("root",), chart(stand("r", sort)))
            self.wrong(("twice", "r"), chart(stand("r", sort), facts=(("r", 0, 1, 0),)))
        self.right(chart(one("r", stand("x"))), chart(both("r", stand("x"))))
        self.wrong(("root",), chart(stand("r", moves=[move(("on", "k"))])))

    def test_first(self):
        self.wrong(("first", "r"), rooted(stand("b", "back")), rooted(stand("b", "back"), stand("d", "deep")))
        self.wrong(("first", "p"), chart(both("r", stand("x"), one("p", stand("b", "back")),
                                              one("q", stand("d", "deep")))))
        self.right(rooted(stand("b", "back"), stand("x")), rooted(stand("x"), stand("d", "deep")))
        self.wrong(("first", "r"), rooted(stand("b", "back"), stand("c", "back")))
        self.wrong(("first", "p"), chart(both("r", stand("b", "back"), one("p", stand("d", "deep")))))

    def test_marker(self):
        back, deep = stand("b", "back"), stand("d", "deep")
        self.right(rooted(back, stand("x"), deep))
        self.wrong(("marker", "b"), chart(both("r", back)), chart(both("r", stand("x"), back, deep)))
        self.wrong(("marker", "d"), chart(both("r", stand("x"), one("p", stand("y"), back), deep)))
        self.wrong(("marker", "c"), rooted(back, stand("x"), stand("c", "back"), stand("e", "back")))
        self.wrong(("marker", "e"), rooted(stand("x"), deep, back, stand("e", "deep")))
        self.wrong(("marker", "c"), rooted(stand("x"), back, deep, stand("c", "back")))
        self.wrong(("marker", "c"), rooted(back, both("p", stand("c", "back")), stand("e", "back")))
        inner = one("q", stand("y"), stand("e", "back"), stand("c", "back"))
        self.wrong(("marker", "c"), rooted(stand("x"), both("p", inner, back)))
        self.wrong(("marker", "b"), rooted(stand("x"), both("p", back, inner)))
        self.wrong(("marker", "c"), rooted(one("p", stand("x"), back, stand("c", "back")), deep, stand("e", "deep")))
        self.right(rooted(one("p", stand("x"), back), stand("c", "back")))

    def test_facts_that_are_named(self):
        set_z, say_z = ("set", "z", N1), ("say", "s", ("sum", N1, ("less", ("fact", "z"), N1)))
        asks_z = ("not", ("either", YES, ("below", N1, ("sum", ("fact", "z"), N1))))
        for deed in (set_z, say_z, ("set", "a", ("fact", "z"))):
            self.wrong(("fact", "x", 0), rooted(stand("x", into=[("set", "a", N1), deed], out=[deed])))
            self.wrong(("fact", "x", 1), rooted(stand("x", out=[deed], moves=[move(deeds=[deed])])))
            self.wrong(("fact", "x", 2), rooted(stand("x", moves=[move(deeds=[deed])])))
        self.wrong(("fact", "x", 4), rooted(stand("x", moves=[move(), move(), move(guard=asks_z)])))
        self.wrong(("fact", "r", 0), rooted(stand("x"), into=[set_z]))
        self.right(rooted(stand("x", into=[("set", "a", ("fact", "a")), ("say", "z", ("fact", "a"))])))
        self.wrong(("fact", "x", 0), rooted(stand("x", into=[("set", "x", N1)])),
                   rooted(stand("x", into=[("set", "h", N1)])))

    def test_happenings_that_are_named(self):
        deed = ("raise", "k")
        self.wrong(("happening", "x", 0), rooted(stand("x", into=[deed], out=[deed])))
        self.wrong(("happening", "x", 1), rooted(stand("x", out=[("raise", "h"), deed])))
        self.wrong(("happening", "x", 3), rooted(stand("x", moves=[move(), move(("on", "k"))])))
        self.wrong(("happening", "x", 2), rooted(stand("x", moves=[move(("after", 3), YES, [deed])])))
        self.wrong(("happening", "r", 2), rooted(stand("x"), moves=[move(("on", "x"))]),
                   rooted(stand("x"), moves=[move(("on", "a"))]))

    def test_stands_that_are_asked_for(self):
        back = stand("b", "back")
        for name in ("z", "b", "a", "h"):
            guard = ("both", ("in", "r"), ("not", ("either", ("in", "x"), ("in", name))))
            self.wrong(("in", "x", 2), rooted(stand("x", moves=[move(guard=guard)]), back))
        self.right(rooted(stand("x", moves=[move(guard=("in", "x")), move(guard=("in", "r"))]), back))
        self.wrong(("in", "x", 3), rooted(stand("x", moves=[move(), move(guard=("in", "b"))]), back))

    def test_goals(self):
        p = one("p", stand("x"), both("q", stand("y"), one("s", stand("t"))), stand("b", "back"))
        root = both("r", p, one("u", stand("v"), stand("w"), stand("d", "deep")))
        told = {goals: chart(root[:5] + ((move(goals=goals),),)) for goals in (
            ("p",), ("x",), ("y",), ("b",), ("d",), ("p", "u"), ("x", "v"), ("w", "y"), ("b", "d"), ("y", "t"),
            ("y", "s"), ("y", "t", "v"), ("v", "t", "y"), ("p", "d"), ("z",), ("r",), ("x", "x"), ("x", "y"), ("v", "w"),
            ("p", "x"), ("x", "p"), ("q", "y"), ("t", "s"), ("s", "t"), ("b", "x"), ("x", "v", "w"), ("v", "p", "q"),
            ("v", "r"), ("v", "z"), ("a",), ("h",), ("y", "v", "t", "v"), ("d", "v"), ("y", "y"), ("p", "p"),
        )}
        right = [("p",), ("x",), ("y",), ("b",), ("d",), ("p", "u"), ("x", "v"), ("w", "y"), ("b", "d"), ("y", "t"),
                 ("y", "s"), ("y", "t", "v"), ("v", "t", "y"), ("p", "d")]
        for goals, thing in told.items():
            self.wrong(None if goals in right else ("goal", "r", 2), thing)
        self.right(rooted(stand("x", moves=[move(goals=["x"])])))
        self.wrong(("goal", "x", 3), rooted(stand("x", moves=[move(), move(goals=["r"])])))

    def test_done(self):
        end = stand("e", "end")
        self.right(rooted(stand("x"), end, moves=[move(("done",))]), rooted(end, moves=[move(("done",))]))
        self.wrong(("done", "r", 2), rooted(stand("x"), moves=[move(("done",))]),
                   rooted(one("p", end), moves=[move(("done",))]),
                   chart(both("r", end, moves=[move(("done",))])))
        self.wrong(("done", "x", 2), rooted(end, stand("x", moves=[move(("done",))])))
        self.wrong(("done", "x", 2), rooted(end, stand("x", moves=[move(("done",))]), moves=[move(("done",))]))
        self.wrong(("happening", "r", 3), rooted(end, stand("x"), moves=[move(("done",)), move(("on", "k"))]))
        self.wrong(("goal", "x", 2), rooted(end, stand("x", moves=[move(goals=["z"])]), moves=[move(("done",))] * 2))
        self.wrong(("done", "e", 3), rooted(stand("e", "end", moves=[move(), move(("done",))])))

    def test_words_of_one_row_in_their_order(self):
        when, guard, goals = ("done",), ("both", ("in", "z"), ("below", ("fact", "z"), N1)), ("z",)
        deed = ("raise", "z")
        self.wrong(("fact", "x", 2), rooted(stand("x", moves=[(when, guard, (deed,), goals)])))
        guard = ("in", "z")
        self.wrong(("happening", "x", 2), rooted(stand("x", moves=[(when, guard, (deed,), goals)])))
        self.wrong(("in", "x", 2), rooted(stand("x", moves=[(when, guard, (), goals)])))
        self.wrong(("goal", "x", 2), rooted(stand("x", moves=[(when, YES, (), goals)])))
        self.wrong(("done", "x", 2), rooted(stand("x", moves=[(when, YES, (), ())])))
        self.wrong(("fact", "x", 0), rooted(stand("x", into=[deed, ("set", "z", N1)])))
        self.wrong(("done", "x", 2), rooted(stand("x", moves=[move(when), move(("on", "z"))])))
        self.wrong(("happening", "x", 0), rooted(stand("x", into=[deed], out=[("set", "z", N1)])))

    def test_stands_in_order(self):
        wrong = stand("y", into=[("raise", "k")])
        self.wrong(("happening", "y", 0), rooted(one("p", wrong), stand("x", into=[("set", "z", N1)])))
        self.wrong(("happening", "r", 2), rooted(one("p", wrong), moves=[move(("on", "k"))]))
        self.wrong(("goal", "p", 2), rooted(one("p", wrong, moves=[move(goals=["r"])])))

    def test_wholes_in_order(self):
        bad = [move(("on", "k"))]
        self.wrong(("twice", "x"), rooted(one("p", stand("b", "back")), stand("x"), stand("x"), moves=bad))
        self.wrong(("first", "p"), rooted(stand("b", "back"), stand("c", "back"), one("p", stand("d", "deep"))))
        self.wrong(("marker", "c"), rooted(stand("x"), stand("b", "back"), stand("c", "back"), moves=bad))
        self.wrong(("first", "p"), rooted(one("p", stand("d", "deep")), moves=bad))
