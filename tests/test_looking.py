"""Looking charts over, points 10 and 11: nothing is let by for being like what is right, and it doesn't take long; no
more do steps and runs."""

import time
import unittest

from deepstands.charts import chart_wrong, names_of, parent_of, room_of, sort_of, within
from deepstands.code import Coded, code
from deepstands.errors import NoChart
from deepstands.runs import Run
from deepstands.steps import chosen, start, step, trace
from deepstands.texts import read_chart

from helpers import YES, chart, move, one, stand

LEAF_ROW = "go on go1 if in a1 and not n + 1 < m - 2 or yes do set n n + 1, say hello m - ( n - 1 ) to a2"


def great_text():
    """The text that took longest: 21 stands, 20 moves."""
    rows = ["fact n 0 9 1", "fact m -2 3 0", "on go1", "on b", "one r", "  into set n 1, say x 2"]
    for k in range(4):
        rows += [f"  {'all' if k % 2 else 'one'} g{k}", "    go after 3 if n = 1 do raise b to a1"]
        for j in range(1, 5):
            rows += [f"    leaf a{4 * k + j}", f"      {LEAF_ROW}"]
    return rows


GREAT = read_chart(great_text())


def places(thing, place=()):
    """The places of all that a thing is made of, itself first."""
    told = [place]
    if isinstance(thing, tuple):
        for k, part in enumerate(thing):
            told += places(part, place + (k,))
    return told


def at(thing, place):
    for k in place:
        thing = thing[k]
    return thing


def replaced(thing, place, part):
    """The thing with another part at a place."""
    if not place:
        return part
    told = list(thing)
    told[place[0]] = replaced(thing[place[0]], place[1:], part)
    return tuple(told)


def wanted_at(place):
    """What is wrong with a chart that has at this place what never stands there."""
    if place in ((), (0,), (1,)):
        return ("chart",)
    if place[0] < 2:
        return (("fact", "happening")[place[0]], place[1])
    address = []
    place = place[1:]
    while len(place) > 1 and place[0] == 2:
        address.append(place[1])
        place = place[2:]
    return ("stand", tuple(address))


class TestLikeWhatIsRight(unittest.TestCase):
    def test_the_chart_is_one(self):
        self.assertIsNone(chart_wrong(GREAT))
        self.assertEqual(len(names_of(GREAT)), 21)

    def test_a_list_in_the_place_of_each_tuple(self):
        tuples = [place for place in places(GREAT) if isinstance(at(GREAT, place), tuple)]
        self.assertGreater(len(tuples), 500)
        for place in tuples:
            thing = replaced(GREAT, place, list(at(GREAT, place)))
            self.assertEqual(chart_wrong(thing), wanted_at(place), place)
        self.assertIsNone(chart_wrong(GREAT))

    def test_a_truth_in_the_place_of_each_number(self):
        for place in places(GREAT):
            if at(GREAT, place) in (0, 1):
                self.assertIsNone(chart_wrong(GREAT))
                thing = replaced(GREAT, place, bool(at(GREAT, place)))
                self.assertEqual(thing, GREAT)
                self.assertEqual(chart_wrong(thing), wanted_at(place), place)
                with self.assertRaises(NoChart) as caught:
                    parent_of(thing, "a1")
                self.assertEqual(caught.exception.wrong, wanted_at(place))

    def test_nothing_and_numbers_in_each_place(self):
        for part in (None, -1, 10 ** 9, "A", ""):
            for place in places(GREAT):
                # A fact may well have other numbers.
                if not isinstance(part, int) or place[0:1] != (0,):
                    self.assertEqual(chart_wrong(replaced(GREAT, place, part)), wanted_at(place), (place, part))

    def test_a_right_part_behind_a_wrong_one_like_it(self):
        right, wrong = ("below", ("num", 1), ("num", 0)), ("below", ("num", True), ("num", False))
        for first, second, address in ((right, wrong, (1,)), (wrong, right, (0,))):
            root = one("r", stand("x", moves=[move(guard=first)]), stand("y", moves=[move(guard=second)]))
            self.assertEqual(chart_wrong(chart(root)), ("stand", address))

    def test_deep_things_in_the_places_of_names(self):
        deep = ()
        for _ in range(5000):
            deep = (deep,)
        for part in (("say", deep, ("num", 1)), ("set", deep, ("num", 1)), ("raise", deep), deep):
            root = one("r", stand("x", into=[part, part]), stand("y", out=[part]))
            self.assertEqual(chart_wrong(chart(root)), ("stand", (0,)))
        for guard in (("in", deep), ("not", deep), deep, ("same", deep, deep)):
            self.assertEqual(chart_wrong(chart(one("r", stand("x", moves=[move(guard=guard)] * 2)))), ("stand", (0,)))
        for told in (move(goals=[deep, deep]), move(("on", deep)), move(("after", deep)), deep, (deep, YES, (), ())):
            self.assertEqual(chart_wrong(chart(one("r", stand("x", moves=[told] * 2)))), ("stand", (0,)))


class TestTime(unittest.TestCase):
    """Limits that a busy machine keeps, and that a look at each part for each sign and name doesn't."""

    def takes_at_most(self, seconds, many, ask, *args):
        before = time.perf_counter()
        for _ in range(many):
            ask(*args)
        self.assertLess(time.perf_counter() - before, seconds)

    def test_looking_over(self):
        self.takes_at_most(1.5, 2000, chart_wrong, GREAT)

    def test_questions(self):
        self.takes_at_most(0.8, 1000, names_of, GREAT)
        self.takes_at_most(0.8, 1000, parent_of, GREAT, "a3")
        self.takes_at_most(0.8, 1000, sort_of, GREAT, "a16")
        self.takes_at_most(0.8, 1000, within, GREAT, "g1", "a3")
        self.takes_at_most(0.8, 1000, room_of, GREAT, "a16", 0)

    def test_looking_over_what_is_none(self):
        thing = replaced(GREAT, (2, 2, 3, 2, 3, 5, 0, 3), ("zz",))
        self.assertEqual(chart_wrong(thing), ("goal", "a16", 2))
        self.takes_at_most(1.5, 1000, chart_wrong, thing)

    def test_steps(self):
        standing = start(GREAT)[0]
        self.takes_at_most(1, 1000, step, GREAT, standing, "go1")
        self.takes_at_most(1, 1000, trace, GREAT, standing, "tick")
        self.takes_at_most(1, 1000, chosen, GREAT, standing, ("on", "go1"))

    def test_runs(self):
        self.takes_at_most(1, 1000, Run, GREAT)
        self.takes_at_most(1, 1000, Coded, code(GREAT))
        for run in (Run(GREAT), Coded(code(GREAT))):
            self.takes_at_most(1, 5000, run.tell, "tick")
            self.assertEqual(len(run), 5000)


if __name__ == "__main__":
    unittest.main()
