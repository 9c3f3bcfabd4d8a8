"""Sayings about all rows of happenings: whether a thing is one, and papers that settle it."""

from deepstands.asking import saying_path
from deepstands.cases import Can, case_of
from deepstands.errors import NoSaying, TooGreat
from deepstands.papers import paper_wrong
from deepstands.plan import plan_of
from deepstands.reach import MOST_STANDINGS
from deepstands.web import Web


def saying_wrong(chart, thing):
    """None where the thing is a saying of the chart, else the path of the first in it that is none."""
    return saying_path(plan_of(chart), thing)


def case_for(chart, saying):
    """A saying asked of a chart."""
    plan = plan_of(chart)
    wrong = saying_path(plan, saying)
    if wrong is not None:
        raise NoSaying(wrong)
    return case_of(Web(plan), saying)


class Search:
    """The rows of a saying as they are come to, the first first."""

    def __init__(self, first):
        self.rows = [first]
        self.places = {first: 0}
        # By the places of rows the place of the row, and the happening, from which each was come to first.
        self.origins = [None]

    def note(self, row, place, at, most):
        """Notes a row that follows the one at a place; more than most are refused."""
        if row in self.places:
            return
        if len(self.rows) >= most:
            raise TooGreat(most)
        self.places[row] = len(self.rows)
        self.rows.append(row)
        self.origins.append((place, at))

    def way_to(self, place):
        """The numbers of the happenings that lead to the row at a place."""
        steps = []
        while self.origins[place] is not None:
            place, at = self.origins[place]
            steps.append(at)
        return steps[::-1]


def paper_of(case, most):
    """The paper of a saying other than can."""
    web = case.web
    search = Search(case.begin())
    if case.is_begin_bad():
        return ("broken", [])
    place = 0
    while place < len(search.rows):
        row = search.rows[place]
        for at in range(len(web.happenings)):
            if case.shows(row, at):
                return ("broken", [web.happenings[step] for step in [*search.way_to(place), at]])
            following = case.follow(row, at)
            if following is not None:
                search.note(following, place, at, most)
        place += 1
    if case.saying[0] == "within":
        return ("holds", [(web.standing_at(number), wait) for number, wait in search.rows])
    return ("holds", [web.standing_at(number) for number, _ in search.rows])


def ranks_of(case):
    """By the numbers of standings how many happenings lead at least to one with h, where any do; of all come to."""
    web = case.web
    many = len(web.states)
    ahead = [[] for _ in range(many)]
    for number in range(many):
        for told, _, behind in web.rows[number]:
            if not isinstance(told, str):
                ahead[behind].append(number)
    level = [number for number in range(many) if case.has(2, number)]
    ranks = {number: 0 for number in level}
    rank = 0
    while level:
        rank += 1
        further = []
        for number in level:
            for other in ahead[number]:
                if other not in ranks:
                    ranks[other] = rank
                    further.append(other)
        level = further
    return ranks


def all_behind(web, number):
    """The numbers of all standings to which rows lead from one, itself the first."""
    found = {number: True}
    waiting = [number]
    while waiting:
        further = waiting.pop()
        for told, _, behind in web.rows[further]:
            if not isinstance(told, str) and behind not in found:
                found[behind] = True
                waiting.append(behind)
    return list(found)


def can_paper(case, most):
    """The paper of a saying can."""
    web = case.web
    web.go_through(most)
    ranks = ranks_of(case)
    for number in range(len(web.states)):
        if number not in ranks and case.has(1, number):
            return ("broken", web.row_to(number), [web.standing_at(other) for other in all_behind(web, number)])
    return ("holds", [(standing, ranks.get(number)) for number, standing in enumerate(web.all_standings())])


def settled(chart, saying, *, most=MOST_STANDINGS):
    """A paper that shows that a saying holds, or that it is broken."""
    case = case_for(chart, saying)
    return can_paper(case, most) if isinstance(case, Can) else paper_of(case, most)


def judged(chart, saying, paper):
    """None where a thing is a paper of a saying that is right, else the first that is wrong with it."""
    return paper_wrong(case_for(chart, saying), paper)
