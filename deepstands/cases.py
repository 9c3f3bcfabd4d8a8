"""Sayings asked of a web: what a paper's rows are, what follows them, and what shows that a saying isn't so.

A row is the number of a standing, of within another number. Happenings are told by their numbers in the web. Where one
is refused the standing behind it is the one ahead of it: so it needs no asking whether it is refused where that one has
been looked at."""

from deepstands.terms import bits_of_stands, holds, note_guard_facts


class Asked:
    """A guard asked at the standings of a web."""

    def __init__(self, web, guard):
        self.web = web
        self.guard = guard
        plan = web.plan
        # The bits of codes that it asks for, and by these whether it holds.
        facts = {}
        note_guard_facts(guard, facts)
        self.bits = bits_of_stands(guard, plan.numbers) | plan.bits_of_facts(facts)
        self.known = {}
        # The same by the numbers of standings, as far as it was found out; whether it holds at any of these.
        self.told = []
        self.is_met = False

    def flags(self):
        """By the numbers of all standings that the web knows as yet whether it holds."""
        told, codes, known = self.told, self.web.codes, self.known
        while len(told) < len(codes):
            code = codes[len(told)]
            found = known.get(code & self.bits)
            if found is None:
                plan = self.web.plan
                found = known[code & self.bits] = holds(self.guard, code, plan.numbers, plan.worths_by_name(code))
                self.is_met = self.is_met or found
            told.append(found)
        return told

    def is_met_yet(self):
        """Whether it holds at any of these."""
        self.flags()
        return self.is_met


class Case:
    """A saying asked of a web, as far as all words are alike; each word has a class below."""

    def __init__(self, web, saying, guards):
        self.web = web
        self.saying = saying
        self.every = list(range(len(web.happenings)))
        self.tick_at = self.every[-1]
        # g and h, where it has these.
        self.first = Asked(web, guards[0]) if guards else None
        self.second = Asked(web, guards[1]) if len(guards) > 1 else None
        # Whether nothing need follow rows that have g.
        self.ends = False

    def is_asked(self, at):
        """Whether the happening at the saying's second place is this one, or any."""
        return self.saying[1] is None or self.saying[1] == self.web.happenings[at]

    def begin(self):
        """The row of the begin."""
        return 0

    def is_begin_bad(self):
        """Whether the begin shows that the saying isn't so."""
        return False

    def is_begin_barred(self):
        """Whether the begin shows so what no row of a paper tells of."""
        return False

    def is_shown(self, row, at, cell):
        """Whether a happening at a row, which does this, shows that the saying isn't so."""
        return False

    def suspects(self, row, cells):
        """The happenings of which it must be asked whether they show it, of all with these cells."""
        return self.every

    def first_shown(self, row, cells):
        """The first happening at a row that shows it, None where none does."""
        for at in self.suspects(row, cells):
            if self.is_shown(row, at, cells[at]):
                return at
        return None

    def is_bad(self, row):
        """Whether a paper that holds may not have this row."""
        return self.first_shown(row, self.web.cells(row)) is not None

    def follows(self, row):
        """By happenings the rows that must follow a row, itself where none need."""
        return [behind for _, _, behind in self.web.cells(row)]

    def next_row(self, row, at):
        """Where a row of happenings goes on to behind a row, also behind what shows that the saying isn't so."""
        return self.web.cell(row, at)[2]

    def lets_refused(self, at, is_last):
        """Whether a row of happenings that shows that the saying isn't so may have this one where it is refused."""
        return False


class Never(Case):
    """No standing that is come to has g."""

    def is_begin_bad(self):
        return self.is_bad(0)

    def is_shown(self, row, at, cell):
        return self.first.flags()[cell[2]]

    def suspects(self, row, cells):
        return self.every if self.first.is_met_yet() else ()

    def is_bad(self, row):
        return self.first.flags()[row]


class Unsaid(Case):
    """No happening, nor the begin, says a name."""

    def says(self, told):
        """Whether what is told of a happening says it."""
        return not isinstance(told, str) and self.saying[1] in [name for name, _ in told]

    def is_begin_bad(self):
        return self.says(self.web.begin_told)

    def is_begin_barred(self):
        return self.is_begin_bad()

    def is_shown(self, row, at, cell):
        return self.says(cell[0])

    def suspects(self, row, cells):
        return [at for at, (told, _, _) in enumerate(cells) if told]


class Unrefused(Case):
    """A happening, or any, is never refused."""

    def is_shown(self, row, at, cell):
        return isinstance(cell[0], str) and self.is_asked(at)

    def suspects(self, row, cells):
        return [at for at, (told, _, _) in enumerate(cells) if told]

    def lets_refused(self, at, is_last):
        return is_last


class Behind(Case):
    """What follows, by a happening or any, what has g has h."""

    def is_shown(self, row, at, cell):
        if not self.is_asked(at) or isinstance(cell[0], str):
            return False
        return self.first.flags()[row] and not self.second.flags()[cell[2]]

    def suspects(self, row, cells):
        return self.every if self.first.flags()[row] else ()


class Before(Case):
    """No standing has h where neither it nor one ahead of it has g. Nothing need follow a row that has g; of a row of
    happenings one that comes behind it, where nothing shows any more, is told as None."""

    def __init__(self, web, saying, guards):
        Case.__init__(self, web, saying, guards)
        self.ends = True

    def is_begin_bad(self):
        return self.is_bad(0)

    def is_shown(self, row, at, cell):
        return row is not None and not self.first.flags()[row] and self.is_bad(cell[2])

    def suspects(self, row, cells):
        return self.every if self.second.is_met_yet() else ()

    def is_bad(self, row):
        return self.second.flags()[row] and not self.first.flags()[row]

    def follows(self, row):
        return [] if self.first.flags()[row] else Case.follows(self, row)

    def next_row(self, row, at):
        return None if row is None or self.first.flags()[row] else Case.next_row(self, row, at)


class Within(Case):
    """From a standing that has g n + 1 ticks don't go by without h. A row is one number: so many times n + 2 as the
    standing's is, and the ticks that are left there, n + 1 where none are counted."""

    def __init__(self, web, saying, guards):
        Case.__init__(self, web, saying, guards)
        self.uncounted = saying[3] + 1
        self.width = saying[3] + 2
        self.begun = []

    def fresh(self):
        """By the numbers of standings the rows of those at which no ticks were counted ahead."""
        first, second, begun = self.first.flags(), self.second.flags(), self.begun
        while len(begun) < len(first):
            number = len(begun)
            left = self.uncounted - 1 if first[number] and not second[number] else self.uncounted
            begun.append(number * self.width + left)
        return begun

    def row_of(self, number, wait):
        """The row of a standing and the ticks that are left there, None where none are counted."""
        return number * self.width + (self.uncounted if wait is None else wait)

    def pair_of(self, row):
        """The number of a row's standing, and the ticks that are left there, None where none are counted."""
        number, left = divmod(row, self.width)
        return number, None if left == self.uncounted else left

    def begin(self):
        return self.fresh()[0]

    def is_shown(self, row, at, cell):
        return at == self.tick_at and row % self.width == 0 and not self.second.flags()[cell[2]]

    def first_shown(self, row, cells):
        return self.tick_at if self.is_shown(row, self.tick_at, cells[self.tick_at]) else None

    def is_bad(self, row):
        return row % self.width == 0 and self.first_shown(row, self.web.cells(row // self.width)) is not None

    def follows(self, row):
        number, left = divmod(row, self.width)
        cells = self.web.cells(number)
        if len(self.begun) < len(self.web.codes):
            self.fresh()
        fresh, second = self.begun, self.second.told
        behind = cells[-1][2]
        if left == self.uncounted:
            found = [row if told and isinstance(told, str) else fresh[k] for told, _, k in cells[:-1]]
            found.append(fresh[behind])
            return found
        found = [
            row if told and isinstance(told, str) else fresh[k] if second[k] else k * self.width + left
            for told, _, k in cells[:-1]
        ]
        if second[behind]:
            found.append(fresh[behind])
        else:
            found.append(behind * self.width + left - 1 if left > 0 else row)
        return found

    def next_row(self, row, at):
        number, left = divmod(row, self.width)
        cell = self.web.cell(number, at)
        behind = cell[2]
        if left == self.uncounted or self.second.flags()[behind] or self.is_shown(row, at, cell):
            return self.fresh()[behind]
        return behind * self.width + (left - 1 if at == self.tick_at else left)

    def lets_refused(self, at, is_last):
        return at == self.tick_at


class Can(Case):
    """From each standing with g some row leads to one with h. By the numbers of standings their numbers in a paper."""

    def __init__(self, web, saying, guards):
        Case.__init__(self, web, saying, guards)
        self.ranks = {}

    def is_bad(self, row):
        rank = self.ranks[row]
        if rank is None:
            return self.first.flags()[row]
        if self.second.flags()[row]:
            return False
        aheads = [self.ranks.get(behind) for _, _, behind in self.web.cells(row)]
        return not [ahead for ahead in aheads if ahead is not None and ahead < rank]


def case_of(web, saying):
    """A saying asked of a web."""
    word = saying[0]
    if word == "never":
        return Never(web, saying, saying[1:])
    if word == "unsaid":
        return Unsaid(web, saying, ())
    if word == "unrefused":
        return Unrefused(web, saying, ())
    if word == "behind":
        return Behind(web, saying, saying[2:])
    if word == "before":
        return Before(web, saying, saying[1:])
    return Within(web, saying, saying[1:3]) if word == "within" else Can(web, saying, saying[1:])
