"""Sayings asked of a web: what a paper's rows are, what follows them, and what shows that a saying isn't so.

A row is a tuple (number, wait): the number of a standing, and the ticks that are left there, None where none are
counted; of all words but within it is None. Happenings are told by their numbers in the web."""

from deepstands.terms import holds


class Case:
    """A saying asked of a web, as far as all words are alike; each word has a class below."""

    def __init__(self, web, saying):
        self.web = web
        self.saying = saying
        self.tick_at = len(web.happenings) - 1
        # By the places of guards in the saying, at which standings they hold.
        self.held = {}

    def has(self, place, number):
        """Whether the guard at a place of the saying holds at a standing."""
        found = self.held.get((place, number))
        if found is None:
            scene, worths, _, _ = self.web.states[number]
            found = self.held[(place, number)] = holds(self.saying[place], scene.names, worths)
        return found

    def is_asked(self, at):
        """Whether the happening at the saying's second place is this one, or any."""
        return self.saying[1] is None or self.saying[1] == self.web.happenings[at]

    def begin(self):
        """The row of the begin."""
        return (0, None)

    def is_begin_bad(self):
        """Whether the begin shows that the saying isn't so."""
        return False

    def is_begin_barred(self):
        """Whether the begin shows so what no row of a paper tells of."""
        return False

    def shows(self, row, at):
        """Whether a happening at a row shows that the saying isn't so."""
        return False

    def is_bad(self, row):
        """Whether a paper that holds may not have this row."""
        for at in range(self.tick_at + 1):
            if self.shows(row, at):
                return True
        return False

    def follow(self, row, at):
        """The row that must follow a row by a happening, None where none need."""
        told, _, behind = self.web.cell(row[0], at)
        return None if isinstance(told, str) else (behind, None)

    def next_row(self, row, at):
        """Where a row of happenings goes on to behind a row, also behind what shows that the saying isn't so."""
        return self.follow(row, at)

    def lets_refused(self, at, is_last):
        """Whether a row of happenings that shows that the saying isn't so may have this one where it is refused."""
        return False


class Never(Case):
    """No standing that is come to has g."""

    def is_begin_bad(self):
        return self.has(1, 0)

    def shows(self, row, at):
        told, _, behind = self.web.cell(row[0], at)
        return not isinstance(told, str) and self.has(1, behind)

    def is_bad(self, row):
        return self.has(1, row[0])


class Unsaid(Case):
    """No happening, nor the begin, says a name."""

    def says(self, told):
        """Whether what is told of a happening says it."""
        return not isinstance(told, str) and self.saying[1] in [name for name, _ in told]

    def is_begin_bad(self):
        return self.says(self.web.begin_told)

    def is_begin_barred(self):
        return self.is_begin_bad()

    def shows(self, row, at):
        return self.says(self.web.cell(row[0], at)[0])


class Unrefused(Case):
    """A happening, or any, is never refused."""

    def shows(self, row, at):
        return self.is_asked(at) and self.web.is_refused(row[0], at)

    def lets_refused(self, at, is_last):
        return is_last


class Behind(Case):
    """What follows, by a happening or any, what has g has h."""

    def shows(self, row, at):
        if not self.is_asked(at) or not self.has(2, row[0]):
            return False
        told, _, behind = self.web.cell(row[0], at)
        return not isinstance(told, str) and not self.has(3, behind)


class Before(Case):
    """No standing has h where neither it nor one ahead of it has g. A row behind one that has g has the wait 0: nothing
    shows there any more."""

    def is_early(self, number):
        """Whether a standing has h and not g."""
        return self.has(2, number) and not self.has(1, number)

    def is_begin_bad(self):
        return self.is_early(0)

    def shows(self, row, at):
        following = self.follow(row, at)
        return following is not None and self.is_early(following[0])

    def is_bad(self, row):
        return self.is_early(row[0])

    def follow(self, row, at):
        following = self.next_row(row, at)
        return following if following is None or following[1] is None else None

    def next_row(self, row, at):
        number, wait = row
        told, _, behind = self.web.cell(number, at)
        if isinstance(told, str):
            return None
        return (behind, None if wait is None and not self.has(1, number) else 0)


class Within(Case):
    """From a standing that has g n + 1 ticks don't go by without h."""

    def wait_from(self, number):
        """How many ticks are left from a standing at which none were counted."""
        return self.saying[3] if self.has(1, number) and not self.has(2, number) else None

    def begin(self):
        return (0, self.wait_from(0))

    def shows(self, row, at):
        number, wait = row
        return wait == 0 and at == self.tick_at and not self.has(2, self.web.cell(number, at)[2])

    def follow(self, row, at):
        return None if self.shows(row, at) else self.next_row(row, at)

    def next_row(self, row, at):
        number, wait = row
        if at != self.tick_at and self.web.is_refused(number, at):
            return None
        behind = self.web.cell(number, at)[2]
        if wait is None or self.has(2, behind) or self.shows(row, at):
            return (behind, self.wait_from(behind))
        return (behind, wait - 1 if at == self.tick_at else wait)

    def lets_refused(self, at, is_last):
        return at == self.tick_at


class Can(Case):
    """From each standing with g some row leads to one with h. By the numbers of standings their numbers in a paper."""

    def __init__(self, web, saying):
        Case.__init__(self, web, saying)
        self.ranks = {}

    def is_bad(self, row):
        number = row[0]
        rank = self.ranks[number]
        if rank is None:
            return self.has(1, number)
        if self.has(2, number):
            return False
        for at in range(self.tick_at + 1):
            told, _, behind = self.web.cell(number, at)
            ahead = self.ranks.get(behind)
            if not isinstance(told, str) and ahead is not None and ahead < rank:
                return False
        return True


def case_of(web, saying):
    """A saying asked of a web."""
    word = saying[0]
    if word == "never":
        return Never(web, saying)
    if word == "unsaid":
        return Unsaid(web, saying)
    if word == "unrefused":
        return Unrefused(web, saying)
    if word == "behind":
        return Behind(web, saying)
    if word == "before":
        return Before(web, saying)
    return Within(web, saying) if word == "within" else Can(web, saying)
