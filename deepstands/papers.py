"""Papers: whether one shows of a saying what it says that it does. Nothing is known here of how it was made."""

from deepstands.cases import Can, Within
from deepstands.kinds import is_whole
from deepstands.standings import read_standing


def number_for(web, thing):
    """The number of a standing, None of what is none."""
    wrong, code = read_standing(web.plan, thing)
    return web.number_of(code, None) if wrong is None else None


def has_truth(standing):
    """Whether a thing that is equal to a standing has a truth in the place of a number."""
    for worth in standing[1]:
        if worth is True or worth is False:
            return True
    for _, age in standing[2]:
        if age is True or age is False:
            return True
    return False


def numbers_for(web, things):
    """The numbers of a list of unlike standings, None of what is none."""
    if not isinstance(things, list):
        return None
    numbers = [number_for(web, thing) for thing in things]
    return None if None in numbers or len(set(numbers)) < len(numbers) else numbers


def pairs_for(web, things, greatest):
    """The tuples (number, count) of a list of tuples of a standing and None or a whole number from 0 on, up to a
    greatest where there is one; None of what is none."""
    if not isinstance(things, list):
        return None
    pairs = []
    for thing in things:
        if not isinstance(thing, tuple) or len(thing) != 2:
            return None
        standing, count = thing
        if count is not None and (not is_whole(count) or count < 0 or greatest is not None and count > greatest):
            return None
        number = number_for(web, standing)
        if number is None:
            return None
        pairs.append((number, count))
    return pairs


def rows_for(case, things):
    """The rows of a paper that holds, None where they are none by form."""
    if isinstance(case, Within):
        pairs = pairs_for(case.web, things, case.saying[3])
        rows = None if pairs is None else [case.row_of(number, wait) for number, wait in pairs]
    elif isinstance(case, Can):
        pairs = pairs_for(case.web, things, None)
        case.ranks = dict(pairs or ())
        rows = None if pairs is None else [number for number, _ in pairs]
    else:
        rows = numbers_for(case.web, things)
    return None if rows is None or len(set(rows)) < len(rows) else rows


def follows_wrong(case, rows, there):
    """The first row, and the first happening, by which what must follow isn't there."""
    for k, row in enumerate(rows):
        for at, following in enumerate(case.follows(row)):
            if following not in there:
                return ("follows", k, at)
    return None


def holds_wrong(case, things):
    """What is wrong first with the rows of a paper that holds."""
    rows = rows_for(case, things)
    if rows is None:
        return ("paper",)
    there = {row: True for row in rows}
    if case.begin() not in there or case.is_begin_barred():
        return ("begin",)
    wrong = follows_wrong(case, rows, there)
    if wrong is not None:
        return wrong
    for k, row in enumerate(rows):
        if case.is_bad(row):
            return ("bad", k)
    return None


def steps_for(case, row):
    """The happenings of a broken paper's row by their numbers, and None; or the number of the first that can't be
    there."""
    web = case.web
    steps = []
    number = 0
    for k, thing in enumerate(row):
        if not web.plan.knows_happening(thing):
            return steps, k
        at = web.happenings.index(thing)
        told, _, behind = web.cell(number, at)
        if isinstance(told, str) and not case.lets_refused(at, k == len(row) - 1):
            return steps, k
        steps.append(at)
        number = behind
    return steps, None


def showings(case, steps):
    """Whether the begin, and then each happening, shows that the saying isn't so."""
    row = case.begin()
    number = 0
    shown = [case.is_begin_bad()]
    for at in steps:
        cell = case.web.cell(number, at)
        shown.append(case.is_shown(row, at, cell))
        row = case.next_row(row, at)
        number = cell[2]
    return shown


def end_of(web, steps):
    """The number of the standing to which happenings lead from the begin."""
    number = 0
    for at in steps:
        number = web.cell(number, at)[2]
    return number


def without_wrong(case, end, numbers):
    """What is wrong first with the standings of a broken can, end the one to which its row leads."""
    there = {number: True for number in numbers}
    if end not in there:
        return ("begin",)
    wrong = follows_wrong(case, numbers, there)
    if wrong is not None:
        return wrong
    flags = case.second.flags()
    for k, number in enumerate(numbers):
        if flags[number]:
            return ("bad", k)
    return None


def broken_wrong(case, paper):
    """What is wrong first with a broken paper."""
    is_can = isinstance(case, Can)
    if len(paper) != (3 if is_can else 2) or not isinstance(paper[1], list):
        return ("paper",)
    numbers = numbers_for(case.web, paper[2]) if is_can else []
    if numbers is None:
        return ("paper",)
    steps, wrong_at = steps_for(case, paper[1])
    if wrong_at is not None:
        return ("row", wrong_at)
    if is_can:
        end = end_of(case.web, steps)
        return without_wrong(case, end, numbers) if case.first.flags()[end] else ("end",)
    shown = showings(case, steps)
    if not shown[-1]:
        return ("end",)
    return ("ahead",) if True in shown[:-1] else None


def paper_wrong(case, paper):
    """What is wrong first with a thing, None where it is a paper of the saying that is right."""
    if not isinstance(paper, tuple) or not 2 <= len(paper) <= 3:
        return ("paper",)
    if paper[0] == "broken":
        return broken_wrong(case, paper)
    return holds_wrong(case, paper[1]) if paper[0] == "holds" and len(paper) == 2 else ("paper",)
