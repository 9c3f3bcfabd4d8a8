"""Judges of papers told once more, by standings as they are told and step by step, as points 21, 22, 42, 51 and 53 say
it: what the program's judges tell is held against this."""

from deepstands.steps import standing_wrong


def is_number(thing):
    return type(thing) is int


class Judge:
    """Papers of a saying, by what slow.py tells of a chart."""

    def __init__(self, slow, saying):
        self.slow, self.saying, self.word = slow, saying, saying[0]
        self.begin = slow.begin()[0]

    def has(self, place, standing):
        return self.slow.has(self.saying[place], standing)

    def is_standing(self, thing):
        return standing_wrong(self.slow.chart, thing) is None

    def are_unlike(self, things):
        return all(thing not in things[:k] for k, thing in enumerate(things))

    def is_row(self, thing):
        if self.word not in ("within", "can"):
            return self.is_standing(thing)
        if type(thing) is not tuple or len(thing) != 2 or not self.is_standing(thing[0]):
            return False
        if thing[1] is None:
            return True
        return is_number(thing[1]) and thing[1] >= 0 and (self.word == "can" or thing[1] <= self.saying[3])

    def standings(self, rows):
        return [row[0] for row in rows] if self.word in ("within", "can") else rows

    def begin_wait(self, standing):
        return self.saying[3] if self.has(1, standing) and not self.has(2, standing) else None

    def follow(self, row, happening):
        """What must be there, None where nothing must: as a row of the paper, of can a standing."""
        standing = row[0] if self.word in ("within", "can") else row
        done = self.slow.go(standing, happening)
        if self.word == "within":
            wait = row[1]
            if done[0] == "refused" and happening != "tick":
                return None
            behind = self.slow.after(standing, happening)
            if self.has(2, behind):
                return (behind, None)
            if wait is None:
                return (behind, self.saying[3] if self.has(1, behind) else None)
            if happening == "tick":
                return None if wait == 0 else (behind, wait - 1)
            return (behind, wait)
        if done[0] == "refused" or self.word == "before" and self.has(1, standing):
            return None
        return done[1]

    def is_bad(self, row, rows):
        standing = row[0] if self.word in ("within", "can") else row
        outcomes = [(happening, self.slow.go(standing, happening)) for happening in self.slow.happenings]
        asked = [(x, done) for x, done in outcomes
                 if self.word in ("unrefused", "behind") and self.saying[1] in (None, x)]
        if self.word == "never":
            return self.has(1, standing)
        if self.word == "unsaid":
            return any(done[0] == "told" and self.saying[1] in dict(done[2]) for _, done in outcomes)
        if self.word == "unrefused":
            return any(done[0] == "refused" for _, done in asked)
        if self.word == "behind":
            return self.has(2, standing) and any(done[0] == "told" and not self.has(3, done[1]) for _, done in asked)
        if self.word == "before":
            return self.has(2, standing) and not self.has(1, standing)
        if self.word == "within":
            return row[1] == 0 and not self.has(2, self.slow.after(standing, "tick"))
        if row[1] is None:
            return self.has(1, standing)
        ranks = dict(rows)
        nearer = [ranks[done[1]] for _, done in outcomes if done[0] == "told" and ranks.get(done[1]) is not None]
        return not self.has(2, standing) and not any(rank < row[1] for rank in nearer)

    def closed(self, rows):
        there = self.standings(rows) if self.word == "can" else rows
        for k, row in enumerate(rows):
            for j, happening in enumerate(self.slow.happenings):
                following = self.follow(row, happening)
                if following is not None and following not in there:
                    return ("follows", k, j)
        return None

    def holds(self, rows):
        if type(rows) is not list or not all(map(self.is_row, rows)):
            return ("paper",)
        if not self.are_unlike(self.standings(rows) if self.word == "can" else rows):
            return ("paper",)
        begin = (self.begin, self.begin_wait(self.begin)) if self.word == "within" else self.begin
        if begin not in (self.standings(rows) if self.word == "can" else rows):
            return ("begin",)
        if self.word == "unsaid" and self.saying[1] in dict(self.slow.begin()[1]):
            return ("begin",)
        wrong = self.closed(rows)
        if wrong:
            return wrong
        return next((("bad", k) for k, row in enumerate(rows) if self.is_bad(row, rows)), None)

    def shows_last(self, row):
        """Whether a row shows it at its end: within by the waits, all others as slow.py tells."""
        if self.word != "within":
            return self.slow.shows(self.saying, row)
        standing, wait, shown = self.begin, self.begin_wait(self.begin), False
        for happening in row:
            standing = self.slow.after(standing, happening)
            shown = happening == "tick" and wait == 0 and not self.has(2, standing)
            if self.has(2, standing) or wait is None or shown:
                wait = self.begin_wait(standing)
            elif happening == "tick":
                wait -= 1
        return shown

    def broken(self, paper):
        if len(paper) != (3 if self.word == "can" else 2) or type(paper[1]) is not list:
            return ("paper",)
        if self.word == "can":
            if type(paper[2]) is not list or not all(map(self.is_standing, paper[2])) or not self.are_unlike(paper[2]):
                return ("paper",)
        way = [self.begin]
        for k, thing in enumerate(paper[1]):
            if type(thing) is not str or thing not in self.slow.happenings:
                return ("row", k)
            let = self.word == "within" and thing == "tick" or self.word == "unrefused" and k == len(paper[1]) - 1
            if self.slow.go(way[-1], thing)[0] == "refused" and not let:
                return ("row", k)
            way.append(self.slow.after(way[-1], thing))
        if self.word == "can":
            return self.without(way[-1], paper[2])
        if not self.shows_last(paper[1]):
            return ("end",)
        return ("ahead",) if any(self.shows_last(paper[1][:k]) for k in range(len(paper[1]))) else None

    def without(self, end, standings):
        if not self.has(1, end):
            return ("end",)
        if end not in standings:
            return ("begin",)
        for k, standing in enumerate(standings):
            for j, happening in enumerate(self.slow.happenings):
                if self.slow.after(standing, happening) not in standings:
                    return ("follows", k, j)
        return next((("bad", k) for k, standing in enumerate(standings) if self.has(2, standing)), None)

    def judged(self, paper):
        if type(paper) is not tuple or len(paper) not in (2, 3) or paper[0] not in ("holds", "broken"):
            return ("paper",)
        if paper[0] == "broken":
            return self.broken(paper)
        return self.holds(paper[1]) if len(paper) == 2 else ("paper",)
