"""Looking charts over, points 10 and 11: nothing is let by for being like what is right, and it doesn't take long; no
more do steps, runs, code and all standings."""

import random
import time
import unittest

from deepstands.alike import alike, alike_wrong, apart, lots
from deepstands.charts import chart_wrong, names_of, parent_of, room_of, sort_of, within
from deepstands.code import Coded, code, code_text, read_code
from deepstands.errors import Endless, NoChart
from deepstands.reach import reach
from deepstands.runs import Run
from deepstands.sayings import judged, settled
from deepstands.steps import chosen, fits, standing_wrong, start, step, trace
from deepstands.texts import read_chart
from deepstands.trials import cover_wrong, idle, trials

from helpers import YES, Maker, chart, move, one, stand
from plain import Wild
from wrongs import wrong_of

LEAF_ROW = "go on go1 if in a1 and not n + 1 < m - 2 or yes do set n n + 1, say hello m - ( n - 1 ) to a2"


def great_text():
    """The text that took longest: 21 stands, 20 moves."""
    rows = ["fact n 0 9 1", "fact m -2 3 0", "on go1", "on b", "one r", "  into set n 1, say x 2"]
    for k in range(4):
        rows += [f"  {'all' if k % 2 else 'one'} g{k}", "    go after 3 if n = 1 do raise b to a1"]
        for j in range(1, 5):
            rows += [f"    leaf a{4 * k + j}", f"      {LEAF_ROW}"]
    return rows


GREAT = read_chart(great_text())


def places(thing, place=()):
    """The places of all that a thing is made of, itself first."""
    told = [place]
    if isinstance(thing, tuple):
        for k, part in enumerate(thing):
            told += places(part, place + (k,))
    return told


def at(thing, place):
    for k in place:
        thing = thing[k]
    return thing


def replaced(thing, place, part):
    """The thing with another part at a place."""
    if not place:
        return part
    told = list(thing)
    told[place[0]] = replaced(thing[place[0]], place[1:], part)
    return tuple(told)


def wanted_at(place):
    """What is wrong with a chart that has at this place what never stands there."""
    if place in ((), (0,), (1,)):
        return ("chart",)
    if place[0] < 2:
        return (("fact", "happening")[place[0]], place[1])
    address = []
    place = place[1:]
    while len(place) > 1 and place[0] == 2:
        address.append(place[1])
        place = place[2:]
    return ("stand", tuple(address))


def takes_at_most(test, seconds, many, ask, *args):
    """The quickest of three loops counts: a machine that is busy for a while spoils one."""
    taken = []
    for _ in range(3):
        before = time.perf_counter()
        for _ in range(many):
            ask(*args)
        taken.append(time.perf_counter() - before)
    test.assertLess(min(taken), seconds)


class TestLikeWhatIsRight(unittest.TestCase):
    def test_the_chart_is_one(self):
        self.assertIsNone(chart_wrong(GREAT))
        self.assertEqual(len(names_of(GREAT)), 21)

    def test_a_list_in_the_place_of_each_tuple(self):
        tuples = [place for place in places(GREAT) if isinstance(at(GREAT, place), tuple)]
        self.assertGreater(len(tuples), 500)
        for place in tuples:
            thing = replaced(GREAT, place, list(at(GREAT, place)))
            self.assertEqual(chart_wrong(thing), wanted_at(place), place)
        self.assertIsNone(chart_wrong(GREAT))

    def test_a_truth_in_the_place_of_each_number(self):
        for place in places(GREAT):
            if at(GREAT, place) in (0, 1):
                self.assertIsNone(chart_wrong(GREAT))
                thing = replaced(GREAT, place, bool(at(GREAT, place)))
                self.assertEqual(thing, GREAT)
                self.assertEqual(chart_wrong(thing), wanted_at(place), place)
                with self.assertRaises(NoChart) as caught:
                    parent_of(thing, "a1")
                self.assertEqual(caught.exception.wrong, wanted_at(place))

    def test_nothing_and_numbers_in_each_place(self):
        for part in (None, -1, 10 ** 9, "A", ""):
            for place in places(GREAT):
                # A fact may well have other numbers.
                if not isinstance(part, int) or place[0:1] != (0,):
                    self.assertEqual(chart_wrong(replaced(GREAT, place, part)), wanted_at(place), (place, part))

    def test_a_right_part_behind_a_wrong_one_like_it(self):
        right, wrong = ("below", ("num", 1), ("num", 0)), ("below", ("num", True), ("num", False))
        for first, second, address in ((right, wrong, (1,)), (wrong, right, (0,))):
            root = one("r", stand("x", moves=[move(guard=first)]), stand("y", moves=[move(guard=second)]))
            self.assertEqual(chart_wrong(chart(root)), ("stand", address))

    def test_deep_things_in_the_places_of_names(self):
        deep = ()
        for _ in range(5000):
            deep = (deep,)
        for part in (("say", deep, ("num", 1)), ("set", deep, ("num", 1)), ("raise", deep), deep):
            root = one("r", stand("x", into=[part, part]), stand("y", out=[part]))
            self.assertEqual(chart_wrong(chart(root)), ("stand", (0,)))
        for guard in (("in", deep), ("not", deep), deep, ("same", deep, deep)):
            self.assertEqual(chart_wrong(chart(one("r", stand("x", moves=[move(guard=guard)] * 2)))), ("stand", (0,)))
        for told in (move(goals=[deep, deep]), move(("on", deep)), move(("after", deep)), deep, (deep, YES, (), ())):
            self.assertEqual(chart_wrong(chart(one("r", stand("x", moves=[told] * 2)))), ("stand", (0,)))


class TestQuickAndSlow(unittest.TestCase):
    """chart_wrong looks for the first that is wrong among halves of what there is; wrongs.py goes through all of it."""

    def spoiled(self, by, chart):
        """A chart with a part in another one's place, or something strange there."""
        where = places(chart)
        strange = [None, True, False, -1, 0, "", "x", "yes", "tick", (), [], ("yes",), ("num", 1), ("done",), "back", "one"]
        thing = replaced(chart, by.choice(where), by.choice([at(chart, by.choice(where)), by.choice(strange)]))
        return thing if by.randint(0, 3) else replaced(thing, by.choice(places(thing)), by.choice(strange))

    def renamed(self, by, chart):
        """A chart with a name in another one's place."""
        names = [place for place in places(chart) if isinstance(at(chart, place), str)]
        words = ["zz", "tick", "one", "all", "leaf", "end", "back", "deep", at(chart, by.choice(names))]
        return replaced(chart, by.choice(names), by.choice(words))

    def changed(self, by, chart):
        """A chart with another stand, a marker, a done or one more goal somewhere."""
        tuples = [place for place in places(chart) if isinstance(at(chart, place), tuple) and place[:1] == (2,)]
        stands = [place for place in tuples if len(at(chart, place)) == 6]
        moves = [place for place in tuples if len(at(chart, place)) == 4]
        place, pick = by.choice(stands), by.randint(0, 3)
        name, sort, inner, *rest = at(chart, place)
        new = by.choice([stand("m1", "back"), stand("m2", "deep"), at(chart, by.choice(stands))])
        if pick < 2 and isinstance(inner, tuple):
            return replaced(chart, place, (name, sort, by.choice([inner + (new,), (new,)]), *rest))
        if not moves:
            return chart
        place = by.choice(moves)
        when, guard, deeds, goals = at(chart, place)
        if pick == 2 or not isinstance(goals, tuple):
            return replaced(chart, place, (("done",), guard, deeds, goals))
        return replaced(chart, place, (when, guard, deeds, goals + (at(chart, by.choice(stands))[0],)))

    def test_the_first_that_is_wrong(self):
        seen = {}
        for seed in range(150):
            by = random.Random(seed)
            chart = by.choice([Wild, Maker])(seed).chart()
            self.assertIsNone(wrong_of(chart))
            self.assertIsNone(chart_wrong(chart))
            for pick in range(40):
                thing = chart
                for _ in range(by.randint(1, 3)):
                    thing = [self.spoiled, self.renamed, self.changed][pick % 3](by, thing)
                    if not isinstance(thing, tuple) or len(thing) != 3:
                        break
                wrong = wrong_of(thing)
                self.assertEqual(chart_wrong(thing), wrong, thing)
                seen[wrong and wrong[0]] = seen.get(wrong and wrong[0], 0) + 1
        for word in (None, "chart", "fact", "happening", "stand", "twice", "first", "marker", "goal", "in", "done"):
            self.assertGreater(seen.get(word, 0), 0, seen)

    def test_one_wrong_row_of_many_stands(self):
        """Wherever it stands it is found, and told rather than any behind it."""
        kinds = {
            "fact": move(deeds=[("say", "s", ("fact", "zz"))]), "happening": move(("on", "zz")),
            "in": move(guard=("not", ("in", "zz"))), "goal": move(goals=["zz"]), "done": move(("done",)),
        }
        for many in (1, 2, 3, 7, 20):
            for k in range(many):
                for word in kinds:
                    wrong = {k: kinds[word], **{j: kinds["fact"] for j in range(k + 1, many, 4)}}
                    leaves = [stand(f"x{j}", moves=[move(), wrong.get(j, move())]) for j in range(many)]
                    self.assertEqual(chart_wrong(chart(one("r", *leaves))), (word, f"x{k}", 3))
                    leaves[k] = stand(f"x{k}", into=[("say", "s", ("num", True))], moves=[kinds[word]])
                    self.assertEqual(chart_wrong(chart(one("r", *leaves))), ("stand", (k,)))


class TestTime(unittest.TestCase):
    """Limits that a busy machine keeps, and that a look at each part for each sign and name doesn't."""

    def takes_at_most(self, seconds, many, ask, *args):
        takes_at_most(self, seconds, many, ask, *args)

    def test_looking_over(self):
        self.takes_at_most(0.6, 2000, chart_wrong, GREAT)

    def test_questions(self):
        for ask, *args in ((names_of,), (parent_of, "a3"), (sort_of, "a16"), (within, "g1", "a3"), (room_of, "a16", 0)):
            self.takes_at_most(0.3, 1000, ask, GREAT, *args)

    def test_looking_over_what_is_none(self):
        thing = replaced(GREAT, (2, 2, 3, 2, 3, 5, 0, 3), ("zz",))
        self.assertEqual(chart_wrong(thing), ("goal", "a16", 2))
        self.takes_at_most(1.5, 1000, chart_wrong, thing)

    def test_steps(self):
        """But little more than looking the chart over."""
        standing = start(GREAT)[0]
        self.takes_at_most(0.35, 1000, standing_wrong, GREAT, standing)
        self.takes_at_most(0.35, 1000, standing_wrong, GREAT, standing[:3] + ((("zz", ()),),))
        for ask in (fits, chosen):
            self.takes_at_most(0.4, 1000, ask, GREAT, standing, ("on", "go1"))
        for ask in (step, trace):
            self.takes_at_most(0.5, 1000, ask, GREAT, standing, "go1")
            self.takes_at_most(0.5, 1000, ask, GREAT, standing, "tick")

    def test_runs(self):
        self.takes_at_most(0.5, 1000, Run, GREAT)
        for run in (Run(GREAT), Coded(code(GREAT))):
            self.takes_at_most(0.3, 5000, run.tell, "tick")
            self.takes_at_most(0.2, 1000, run.copy)
            self.assertEqual(len(run), 15000)

    def test_code(self):
        rows = code(GREAT)
        text = code_text(rows)
        self.takes_at_most(0.7, 1000, code, GREAT)
        self.takes_at_most(0.08, 1000, code_text, rows)
        self.takes_at_most(0.12, 1000, read_code, text)
        self.takes_at_most(0.3, 1000, Coded, rows)
        self.assertEqual(read_code(text), rows)

    def test_reading(self):
        self.takes_at_most(0.5, 200, read_chart, great_text())

    def test_many_standings(self):
        """A chart is looked over once in a call, not once for each standing or step."""
        long = read_chart(["fact n 0 1999 0", "on a", "on b", "one r", "  leaf x", "    go on a do set n n + 1",
                           "    go on b if 0 < n do set n n - 1"])
        papers = [(saying, settled(long, saying)) for saying in (("unsaid", "zz"), ("can", ("yes",), ("in", "x")))]
        some, cover = trials(long)
        pairs = alike(long, long)
        self.takes_at_most(0.5, 1, reach, long)
        for saying, paper in papers:
            self.takes_at_most(0.5, 1, settled, long, saying)
            self.takes_at_most(0.5, 1, judged, long, saying, paper)
        self.takes_at_most(0.5, 1, trials, long)
        self.takes_at_most(0.5, 1, cover_wrong, long, some, cover)
        self.takes_at_most(0.5, 1, idle, long)
        self.takes_at_most(0.5, 1, alike, long, long)
        self.takes_at_most(0.5, 1, alike_wrong, long, long, pairs)
        # Any two are parted by how often a is not refused alone.
        self.takes_at_most(1, 1, lots, long)
        self.takes_at_most(1, 1, apart, long, 0, 1)
        self.assertEqual(apart(long, 0, 1), ["a"] * 1999)

    def test_whats_that_come_again(self):
        """It is found out that they do ahead of the last one."""
        told = read_chart(["on a", "one r", "  leaf x", "    go on a do raise a to y", "  leaf y", "    go on a do raise a to x"])
        run = Run(told)

        def tell():
            with self.assertRaises(Endless):
                run.tell("a")
        self.takes_at_most(0.5, 1000, tell)


if __name__ == "__main__":
    unittest.main()
