"""lots, apart, least_table, table_wrong: points 52 and 53."""

import unittest

from deepstands.alike import alike, apart, least_table, lots, table_wrong
from deepstands.errors import Beyond, NoChart, NoNumber, TooGreat
from deepstands.parting import Parting
from deepstands.reach import reach
from deepstands.texts import read_chart
from deepstands.trials import trial_of

from drawn import Drawn
from helpers import chart, one, stand
from test_looking import at, places, replaced

# Of u, v and w all rows tell the same from u and w; x alone says something by b, y alone refuses it.
CHART = read_chart(["fact n 0 0 0", "on a", "on b", "one r", "  leaf u", "    go on a to v", "  leaf v",
                    "    go on a to w", "  leaf w", "    go on a to x", "  leaf x", "    go on a to y",
                    "    go on b do say s 1 to v", "  leaf y", "    go on b do set n 1", "    go on a to z", "  leaf z",
                    "    go on a to x"])
LOTS = [[0], [1], [2, 5], [3], [4]]
QUIET = ()
TABLE = (QUIET, (
    ((1, QUIET), (0, QUIET), (0, QUIET)),
    ((2, QUIET), (1, QUIET), (1, QUIET)),
    ((3, QUIET), (2, QUIET), (2, QUIET)),
    ((4, QUIET), (1, (("s", 1),)), (3, QUIET)),
    ((2, QUIET), (4, "Beyond"), (4, QUIET)),
))
APART = {
    (0, 1): ["a", "a", "b"], (0, 2): ["a", "b"], (0, 3): ["b"], (0, 4): ["b"], (0, 5): ["a", "b"],
    (1, 2): ["a", "b"], (1, 3): ["b"], (1, 4): ["b"], (1, 5): ["a", "b"], (2, 3): ["b"], (2, 4): ["b"], (2, 5): None,
    (3, 4): ["b"], (3, 5): ["b"], (4, 5): ["b"],
}
TWICE = read_chart(["on a", "one r", "  into say hi 2", "  leaf x", "    go on a to y", "  leaf y", "    go on a to x"])
ENDLESS = read_chart(["fact n 0 1 0", "on a", "on b", "one r", "  leaf x", "    go on a do raise a", "    go on b to y",
                      "  leaf y", "    go on a do set n 2", "    go on b to x"])


class Refusing(unittest.TestCase):
    def refused(self, error, ask, *args, **more):
        with self.assertRaises(error) as caught:
            ask(*args, **more)
        return caught.exception


class TestLots(Refusing):
    def test_lots(self):
        self.assertEqual([standing[0][1] for standing in reach(CHART)[0]], ["u", "v", "w", "x", "y", "z"])
        self.assertEqual(lots(CHART), LOTS)
        self.assertEqual(lots(TWICE), [[0, 1]])
        self.assertEqual(lots(ENDLESS), [[0], [1]])

    def test_lots_that_are_changed(self):
        told = lots(CHART)
        told[2].append("spoiled")
        told.append("spoiled")
        self.assertEqual(lots(CHART), LOTS)

    def test_rising_and_by_their_first(self):
        for seed in range(30):
            told = lots(Drawn(seed).chart)
            self.assertEqual(told, sorted(told))
            for lot in told:
                self.assertEqual(lot, sorted(lot))


class TestApart(Refusing):
    def test_apart(self):
        for (one, other), row in APART.items():
            self.assertEqual(apart(CHART, one, other), row, (one, other))
            self.assertEqual(apart(CHART, other, one), row, (other, one))
        for number in range(6):
            self.assertIsNone(apart(CHART, number, number))
        self.assertEqual(apart(ENDLESS, 0, 1), ["a"])

    def test_the_first_of_the_shortest(self):
        rows = ["one r", "  leaf x", "    go on a do say s 1", "    go on b do say s 1", "    go after 1 to y", "  leaf y"]
        self.assertEqual(apart(read_chart(["on a", "on b"] + rows), 0, 1), ["a"])
        self.assertEqual(apart(read_chart(["on b", "on a"] + rows), 0, 1), ["b"])

    def test_no_numbers(self):
        for number in (-1, 6, 10 ** 20, True, False, None, "0", (0,), [0], ()):
            self.refused(NoNumber, apart, CHART, number, 0)
            self.refused(NoNumber, apart, CHART, 0, number)
            self.refused(NoNumber, apart, CHART, number, number)

    def test_no_number_is_behind_all_else(self):
        self.assertEqual(self.refused(TooGreat, apart, CHART, -1, None, most=5).most, 5)
        self.assertIsNone(apart(most=6, other=2, one=5, chart=CHART))
        self.refused(NoChart, apart, None, -1, -1)


class TestTables(Refusing):
    def test_the_least_table(self):
        self.assertEqual(least_table(CHART), TABLE)
        self.assertEqual(repr(least_table(CHART)), repr(TABLE))
        self.assertEqual(least_table(TWICE), ((("hi", 2),), (((0, QUIET), (0, QUIET)),)))
        self.assertEqual(least_table(ENDLESS)[1], (((0, "Endless"), (1, QUIET), (0, QUIET)),
                                                   ((1, "Beyond"), (0, QUIET), (1, QUIET))))

    def test_tables_that_are_right(self):
        self.assertIsNone(table_wrong(CHART, TABLE))
        # More lots than are needed, also such as nothing comes to.
        more = (QUIET, TABLE[1] + (((0, "Endless"), (5, (("zz", -7),)), (0, QUIET)),))
        self.assertIsNone(table_wrong(CHART, more))
        standings, steps = reach(CHART)
        every = tuple(tuple((k if cell[0] == "refused" else cell[3], cell[1] if cell[0] == "refused" else tuple(cell[1]))
                            for cell in row) for k, row in enumerate(steps))
        self.assertEqual(len(every), len(standings))
        self.assertIsNone(table_wrong(CHART, (QUIET, every)))

    def test_form(self):
        row = TABLE[1][0]
        for thing in (None, True, 0, "x", (), [], (QUIET,), list(TABLE), TABLE + (1,), (QUIET, ()), (QUIET, list(TABLE[1])),
                      ([], TABLE[1]), (None, TABLE[1]), ("Beyond", TABLE[1]), ((("s",),), TABLE[1]), ((("s", True),), TABLE[1]),
                      ((["s", 1],), TABLE[1]), (((1, 1),), TABLE[1]), ((("s", 1, 1),), TABLE[1]), ((None,), TABLE[1]),
                      ("", TABLE[1])):
            self.assertEqual(table_wrong(CHART, thing), ("form",), thing)
        for bad in (None, (), row[:2], row + row[:1], list(row), row[:2] + (None,), row[:2] + ((0,),),
                    row[:2] + ([0, QUIET],), row[:2] + ((0, QUIET, 0),), row[:2] + ((-1, QUIET),), row[:2] + ((6, QUIET),),
                    row[:2] + ((True, QUIET),), row[:2] + ((None, QUIET),), row[:2] + ((0, None),), row[:2] + ((0, []),),
                    row[:2] + ((0, "zz"),), row[:2] + ((0, ""),), row[:2] + ((0, "beyond"),), row[:2] + ((0, 0),),
                    row[:2] + ((0, (("s", False),)),), row[:2] + ((0, (("s",),)),), row[:2] + ((0, ("s", 1)),),
                    row[:2] + (("0", QUIET),), row[:2] + ((0, ((None, 1),)),)):
            self.assertEqual(table_wrong(CHART, (QUIET, TABLE[1] + (bad,))), ("form",), bad)
            self.assertEqual(table_wrong(CHART, (QUIET, (bad,) + TABLE[1])), ("form",), bad)

    def test_rows(self):
        def spoiled(lot, at, cell):
            return replaced(TABLE, (1, lot, at), cell)

        for table, row in (
            (((("s", 1),), TABLE[1]), []), (spoiled(0, 0, (1, (("s", 1),))), ["a"]), (spoiled(0, 2, (1, QUIET)), ["tick", "a", "a", "b"]),
            (spoiled(0, 0, (0, QUIET)), ["a", "a", "a", "b"]), (spoiled(3, 1, (1, QUIET)), ["a", "a", "a", "b"]),
            (spoiled(3, 1, (1, (("s", 2),))), ["a", "a", "a", "b"]), (spoiled(3, 1, (1, "Beyond")), ["a", "a", "a", "b"]),
            (spoiled(4, 1, (4, "Endless")), ["a", "a", "a", "a", "b"]), (spoiled(4, 1, (4, QUIET)), ["a", "a", "a", "a", "b"]),
            (spoiled(0, 1, (3, QUIET)), ["b", "b"]),
        ):
            self.assertEqual(table_wrong(CHART, table), ("row", row))

    def test_behind_a_refused_word_it_goes_on_by_its_lot(self):
        self.assertEqual(table_wrong(CHART, replaced(TABLE, (1, 4, 1), (3, "Beyond"))),
                         ("row", ["a", "a", "a", "a", "b", "b"]))
        self.assertEqual(table_wrong(ENDLESS, ((), (((1, "Endless"), (1, QUIET), (0, QUIET)),
                                                    ((1, "Beyond"), (0, QUIET), (1, QUIET))))), ("row", ["a", "a"]))

    def test_the_order_of_refusals(self):
        beyond = chart(one("r", stand("x", into=[("set", "a", ("num", 10))])))
        for ask in (lots, least_table, lambda c, **more: apart(c, None, None, **more),
                    lambda c, **more: table_wrong(c, None, **more)):
            self.assertEqual(self.refused(NoChart, ask, None, most=1).wrong, ("chart",))
            self.assertEqual(self.refused(Beyond, ask, beyond, most=1).stand, "x")
            self.assertEqual(self.refused(TooGreat, ask, CHART, most=5).most, 5)
        self.assertEqual(lots(most=6, chart=CHART), LOTS)
        self.assertEqual(least_table(most=6, chart=CHART), TABLE)
        self.assertIsNone(table_wrong(most=6, thing=TABLE, chart=CHART))
        with self.assertRaises(TypeError):
            lots(CHART, 6)

    def test_most_is_of_standings(self):
        """However many pairs are gone through."""
        text = ["fact n 0 1999 0", "on a", "one r", "  leaf x", "    go on a if n < 1999 do set n n + 1",
                "    go on a do say s 1"]
        long = read_chart(text)
        self.assertEqual(len(lots(long)), 2000)
        self.assertEqual(apart(long, 0, 1), ["a"] * 1999)
        self.assertEqual(apart(long, 1998, 0), ["a"] * 2)
        table = least_table(long)
        self.assertIsNone(table_wrong(long, table))
        self.assertEqual(table_wrong(long, (table[0], table[1][:-1] + (((0, QUIET), (1999, QUIET)),))),
                         ("row", ["a"] * 2000))


class TestDrawn(Refusing):
    def test_lots_and_rows_apart(self):
        longest = 0
        for seed in range(70):
            drawn = Drawn(seed, least=2, most=15)
            self.assertEqual(lots(drawn.chart), drawn.slow.lots(drawn.standings))
            for one in range(len(drawn.standings)):
                other = drawn.by.randrange(len(drawn.standings))
                row = apart(drawn.chart, one, other)
                self.assertEqual(row, drawn.slow.row_apart(drawn.standings[one], drawn.standings[other]))
                longest = max(longest, len(row or []))
        self.assertGreater(longest, 2)

    def test_tables(self):
        """A least table is right and has as many lots as there are; all rows tell of it what trials tell."""
        for seed in range(60):
            drawn = Drawn(seed)
            said, rows = least_table(drawn.chart)
            self.assertIsNone(table_wrong(drawn.chart, (said, rows)))
            self.assertEqual(len(rows), len(lots(drawn.chart)))
            row = drawn.row(12)
            lot, told = 0, trial_of(drawn.chart, row)[1]
            self.assertEqual(list(said), told[0][1])
            for k, happening in enumerate(row):
                lot, tells = rows[lot][drawn.slow.happenings.index(happening)]
                self.assertEqual(tells if isinstance(tells, str) else list(tells), told[k + 1][1])

    def test_spoiled_tables(self):
        """With a cell spoiled a table is right just where all pairs of standings and lots tell the same."""
        seen = {}
        for seed in range(120):
            drawn = Drawn(seed, least=2)
            table = least_table(drawn.chart)
            for _ in range(6):
                where = drawn.by.choice([place for place in places(table) if place[:1] == (1,)])
                part = drawn.by.choice([at(table, drawn.by.choice(places(table))), 0, 1, "Beyond", "Endless"])
                other = replaced(table, where, part)
                told = table_wrong(drawn.chart, other)
                if told == ("form",):
                    continue
                wanted = self.row_unlike(drawn, other)
                self.assertEqual(told, None if wanted is None else ("row", wanted))
                seen[wanted and len(wanted)] = seen.get(wanted and len(wanted), 0) + 1
        self.assertGreater(len(seen), 4)

    def row_unlike(self, drawn, table):
        pairs, rows = [(drawn.standings[0], 0)], [[]]
        if list(table[0]) != drawn.slow.begin()[1]:
            return []
        for k, (standing, lot) in enumerate(pairs):
            for j, happening in enumerate(drawn.slow.happenings):
                tells = drawn.slow.tells(standing, happening)
                if table[1][lot][j][1] != (tells if isinstance(tells, str) else tuple(tells)):
                    return rows[k] + [happening]
                behind = (drawn.slow.after(standing, happening), table[1][lot][j][0])
                if behind not in pairs:
                    pairs.append(behind)
                    rows.append(rows[k] + [happening])
        return None

    def test_lots_tell_alike_and_apart_unlike(self):
        for seed in range(20):
            drawn = Drawn(seed)
            self.assertEqual(alike(drawn.chart, drawn.chart)[1], [(x, x) for x in drawn.standings])


class TestParting(unittest.TestCase):
    """States drawn anew, more of them than charts have come to in the other tests."""

    def slow_rounds(self, tells, targets):
        """In which round any two states are parted, by rounds over all pairs."""
        many = range(len(tells))
        told = {(x, y): 0 for x in many for y in many if tells[x] != tells[y]}
        number = 0
        while True:
            number += 1
            fresh = [(x, y) for x in many for y in many if (x, y) not in told
                     and any(pair in told for pair in zip(targets[x], targets[y]))]
            if not fresh:
                return told
            told.update({pair: number for pair in fresh})

    def test_rounds(self):
        deepest = 0
        for seed in range(40):
            by = Drawn(0).by.__class__(seed)
            many, letters = by.randint(2, 25), by.randint(1, 3)
            kinds = by.choice([1, 2, 2, 3])
            tells = [tuple(by.randrange(kinds) if by.random() < 0.2 else 0 for _ in range(letters)) for _ in range(many)]
            targets = [[by.choice([k, min(k + 1, many - 1), by.randrange(many)]) for _ in range(letters)]
                       for k in range(many)]
            parting = Parting(tells, targets)
            wanted = self.slow_rounds(tells, targets)
            for x in range(many):
                for y in range(many):
                    self.assertEqual(parting.round_of(x, y), wanted.get((x, y)))
                    row = parting.row_apart(x, y)
                    self.assertEqual(row and len(row) - 1, wanted.get((x, y)))
            deepest = max(deepest, *wanted.values(), 0)
        self.assertGreater(deepest, 5)


if __name__ == "__main__":
    unittest.main()
