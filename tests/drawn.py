"""Charts, sayings and papers, drawn by a number: the same for the same number."""

import random

from deepstands.errors import Beyond, Endless
from deepstands.steps import start

from plain import Wild
from slow import Slow


def begins(chart):
    try:
        start(chart)
    except (Beyond, Endless):
        return False
    return True


class Drawn:
    """Some charts of few standings, at least so many, that begin."""

    def __init__(self, seed, most=20, least=1):
        self.by = random.Random(seed)
        while True:
            self.wild = Wild(self.by.randint(0, 10 ** 9))
            self.chart = self.wild.chart()
            if len(self.chart[1]) > 2 or not begins(self.chart):
                continue
            self.slow = Slow(self.chart)
            self.standings = self.slow.reach(most)
            if self.standings is not None and len(self.standings) >= least:
                return

    def guard(self):
        """A guard that holds at some standing, or any."""
        standing = self.by.choice(self.standings)
        pick = self.by.randint(0, 4)
        at = self.by.randrange(len(self.chart[0]))
        name, worth = self.chart[0][at][0], standing[1][at]
        told = [("in", self.by.choice(standing[0][1:])), self.wild.guard(2)]
        told.append(("same", ("fact", name), ("num", worth)) if worth >= 0 else ("below", ("fact", name), ("num", 0)))
        if pick < 3:
            return told[pick]
        return ("both", told[0], told[2]) if pick == 3 else ("not", told[self.by.choice([0, 2])])

    def saying(self, word):
        whens = [*self.slow.happenings, None]
        return {
            "never": lambda: (word, self.guard()),
            "unsaid": lambda: (word, self.by.choice(["s", "tick", "f0", "zz"])),
            "unrefused": lambda: (word, self.by.choice(whens)),
            "behind": lambda: (word, self.by.choice(whens), self.guard(), self.guard()),
            "within": lambda: (word, self.guard(), self.guard(), self.by.randint(0, 3)),
        }.get(word, lambda: (word, self.guard(), self.guard()))()

    def row(self, most=5):
        return [self.by.choice(self.slow.happenings) for _ in range(self.by.randint(0, most))]

    def some_standing(self):
        """A standing, come to or not."""
        return self.slow.plain.some_standing(self.by)

    def spoiled_rows(self, rows, is_pair):
        """The rows of a paper with one spoiled, or more."""
        rows, by = list(rows), self.by
        pick, at = by.randint(0, 8), by.randrange(len(rows))
        standing = self.some_standing()
        if pick == 0:
            del rows[at]
        elif pick == 1:
            rows.append(rows[at])
        elif pick == 2:
            by.shuffle(rows)
        elif pick == 3:
            rows.insert(at, (standing, by.choice([None, 0, 1, 2])) if is_pair else standing)
        elif pick == 4 and is_pair:
            rows[at] = (rows[at][0], by.choice([None, 0, 1, 2, 3, 9, True, False, -1, "x"]))
        elif pick == 5:
            rows[at] = by.choice([None, (), [], True, 7, "x", rows[at][:1], rows[at][0], list(rows[at])])
        elif pick == 6:
            rows = rows[:at]
        elif pick == 7 and is_pair:
            rows.append((rows[at][0], by.choice([None, 0, 1, 2])))
        return rows

    def spoiled_row(self, row):
        """A row of happenings with one spoiled, or more."""
        by = self.by
        at = by.randint(0, len(row))
        strange = by.choice(["zz", None, True, 0, ["tick"], ("tick",)])
        return by.choice([
            lambda: row[:at], lambda: row[:at] + row[at + 1:], lambda: row[:at] + self.row(2) + row[at:],
            lambda: row[:at] + [strange] + row[at:], lambda: row + row, lambda: row + self.row(6), lambda: self.row(6),
        ])()

    def spoiled(self, paper, word):
        """A paper of a saying of a word, spoiled once, or made of another one."""
        by, is_pair = self.by, word in ("within", "can")
        pick = by.randint(0, 11)
        if pick == 0:
            return by.choice([None, paper[0], paper[:1], list(paper), paper + ([],), (paper[0], tuple(paper[1])),
                              ("zz", paper[1])])
        if pick == 1:
            return ("broken", self.row()) + ((list(self.standings),) if word == "can" else ())
        if pick == 2:
            return ("holds", [(x, by.choice([None, 0, 1])) if is_pair else x for x in self.standings])
        if paper[0] == "holds":
            return ("holds", self.spoiled_rows(paper[1], is_pair))
        if len(paper) == 3 and pick < 8:
            return ("broken", paper[1], self.spoiled_rows(paper[2], False))
        return ("broken", self.spoiled_row(paper[1])) + paper[2:]
