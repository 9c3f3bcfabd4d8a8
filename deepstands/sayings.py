"""Sayings about all rows of happenings: whether a thing is one, and papers that settle it."""

from deepstands.asking import saying_path
from deepstands.cases import Can, case_of
from deepstands.errors import NoSaying, TooGreat
from deepstands.papers import paper_wrong
from deepstands.plan import plan_of, shared_plan_of
from deepstands.reach import MOST_STANDINGS
from deepstands.web import Web


def saying_wrong(chart, thing):
    """None where the thing is a saying of the chart, else the path of the first in it that is none."""
    return saying_path(plan_of(chart), thing)


def case_for(chart, saying):
    """A saying asked of a chart."""
    plan = shared_plan_of(chart)
    wrong = saying_path(plan, saying)
    if wrong is not None:
        raise NoSaying(wrong)
    return case_of(Web(plan), saying)


def plain_search(case, most):
    """Goes on from each row of a saying, the rows being the standings as the web comes to them. Told is the first row
    of happenings that shows that the saying isn't so, None where none does; more than most rows are refused."""
    web = case.web
    number = 0
    while number < len(web.codes):
        if not case.ends or not case.first.flags()[number]:
            cells = web.cells(number)
            shown = case.first_shown(number, cells)
            if shown is not None or len(web.codes) > most:
                for at, (_, _, behind) in enumerate(cells):
                    if at == shown:
                        return [*web.row_to(number), web.happenings[at]]
                    if behind >= most:
                        raise TooGreat(most)
        number += 1
    return None


class Search:
    """The rows of a within as they are come to, the first first."""

    def __init__(self, case, most):
        self.case = case
        self.most = most
        self.rows = [case.begin()]
        self.places = {case.begin(): 0}
        # By the places of rows the place of the row, and the happening, from which each was come to first.
        self.origins = [None]

    def note(self, row, place, at):
        """Notes a row that wasn't come to as yet; more than most are refused."""
        if len(self.rows) >= self.most:
            raise TooGreat(self.most)
        self.places[row] = len(self.rows)
        self.rows.append(row)
        self.origins.append((place, at))

    def way_by(self, place, at):
        """The happenings that lead to the row at a place, and one more."""
        happenings = self.case.web.happenings
        row = [happenings[at]]
        while self.origins[place] is not None:
            place, at = self.origins[place]
            row.append(happenings[at])
        return row[::-1]

    def go_through(self):
        """Goes on from each row by each happening; told is the first row of happenings that shows that the saying isn't
        so, None where none does."""
        case, places = self.case, self.places
        place = 0
        while place < len(self.rows):
            row = self.rows[place]
            shown = case.tick_at if row % case.width == 0 and case.is_bad(row) else None
            for at, following in enumerate(case.follows(row)):
                if at == shown:
                    return self.way_by(place, at)
                if following not in places:
                    self.note(following, place, at)
            place += 1
        return None


def paper_of(case, most):
    """The paper of a saying other than can."""
    web = case.web
    if case.is_begin_bad():
        return ("broken", [])
    if case.saying[0] != "within":
        row = plain_search(case, most)
        return ("holds", web.all_standings()) if row is None else ("broken", row)
    search = Search(case, most)
    row = search.go_through()
    if row is not None:
        return ("broken", row)
    pairs = [case.pair_of(row) for row in search.rows]
    return ("holds", [(web.standing_at(number), wait) for number, wait in pairs])


def ranks_of(case):
    """By the numbers of standings how many happenings lead at least to one with h, where any do; of all come to."""
    web = case.web
    ahead = [[] for _ in web.rows]
    for number, row in enumerate(web.rows):
        for _, _, behind in row:
            ahead[behind].append(number)
    level = [number for number, has_second in enumerate(case.second.flags()) if has_second]
    ranks = {number: 0 for number in level}
    rank = 0
    while level:
        rank += 1
        further = []
        for number in level:
            for other in ahead[number]:
                if other not in ranks:
                    ranks[other] = rank
                    further.append(other)
        level = further
    return ranks


def all_behind(web, number):
    """The numbers of all standings to which rows lead from one, itself the first."""
    found = {number: True}
    waiting = [number]
    while waiting:
        for _, _, behind in web.rows[waiting.pop()]:
            if behind not in found:
                found[behind] = True
                waiting.append(behind)
    return list(found)


def can_paper(case, most):
    """The paper of a saying can."""
    web = case.web
    web.go_through(most)
    ranks = ranks_of(case)
    for number, has_first in enumerate(case.first.flags()):
        if has_first and number not in ranks:
            return ("broken", web.row_to(number), [web.standing_at(other) for other in all_behind(web, number)])
    return ("holds", [(standing, ranks.get(number)) for number, standing in enumerate(web.all_standings())])


def settled(chart, saying, *, most=MOST_STANDINGS):
    """A paper that shows that a saying holds, or that it is broken."""
    case = case_for(chart, saying)
    return can_paper(case, most) if isinstance(case, Can) else paper_of(case, most)


def judged(chart, saying, paper):
    """None where a thing is a paper of a saying that is right, else the first that is wrong with it."""
    return paper_wrong(case_for(chart, saying), paper)
