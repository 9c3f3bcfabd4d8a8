"""read_chart against a recognizer that knows the grammar of points 5 and 6 alone, and tries all ways at once."""

import random
import re
import unittest

from deepstands.errors import NoText
from deepstands.kinds import KEYWORDS
from deepstands.texts import printed, read_chart

from helpers import Maker

DEEP = 7
WORD = re.compile(r"[a-z][a-z0-9]{0,7}|0|[1-9][0-9]{0,8}|[()+\-<=,]")


def stand_ways(depth):
    """The ways in which a stand of a depth may go on."""
    ways = [f"I{depth} back NAME .", f"I{depth} deep NAME ."]
    ways += [f"I{depth} {sort} NAME . Rows{depth + 1}" for sort in ("leaf", "end")]
    return ways + [f"I{depth} {sort} NAME . Rows{depth + 1} Stands{depth + 1}" for sort in ("one", "all")]


def grammar():
    """The rules by their heads, which alone begin with a capital and go on small."""
    made = {
        "Text": ["Facts Ons Stand0 EOT"],
        "Facts": ["", "I0 fact NAME Signed Signed Signed . Facts"],
        "Ons": ["", "I0 on NAME . Ons"],
        "Signed": ["NUMBER", "- NUMBER"],
        "Deeds": ["Deed", "Deed , Deeds"],
        "Deed": ["set NAME Term", "raise NAME", "say NAME Term"],
        "When": ["on NAME", "after NUMBER", "done"],
        "If": ["", "if Guard"],
        "Do": ["", "do Deeds"],
        "To": ["", "to Goals"],
        "Goals": ["NAME", "NAME , Goals"],
        "Term": ["Part", "Term + Part", "Term - Part"],
        "Part": ["NUMBER", "NAME", "( Term )"],
        "Guard": ["Ands", "Guard or Ands"],
        "Ands": ["Atom", "Ands and Atom"],
        "Atom": ["not Atom", "yes", "in NAME", "Term < Term", "Term = Term", "( Guard )"],
    }
    for depth in range(DEEP):
        made[f"Stand{depth}"] = stand_ways(depth)
    for depth in range(1, DEEP + 1):
        made[f"Rows{depth}"] = [f"Into{depth} Out{depth} Gos{depth}"]
        made[f"Into{depth}"] = ["", f"I{depth} into Deeds ."]
        made[f"Out{depth}"] = ["", f"I{depth} out Deeds ."]
        made[f"Gos{depth}"] = ["", f"I{depth} go When If Do To . Gos{depth}"]
        made[f"Stands{depth}"] = [""] + [f"Stand{depth} Stands{depth}"] * (depth < DEEP)
    return {head: [tuple(way.split()) for way in ways] for head, ways in made.items()}


RULES = grammar()


def empty_heads():
    """The heads that may be without a word."""
    found = set()
    while True:
        more = {head for head, ways in RULES.items() if any(found.issuperset(way) for way in ways)}
        if more == found:
            return found
        found = more


EMPTY = empty_heads()


def closed(items, sets, at):
    """All that is awaited at a place, by Earley's rules."""
    found = dict.fromkeys(items)
    waiting = list(items)
    while waiting:
        head, way, dot, start = waiting.pop()
        if dot == len(way):
            new = [(h, w, d + 1, s) for h, w, d, s in (found if start == at else sets[start])
                   if d < len(w) and w[d] == head]
        elif way[dot] in RULES:
            new = [(way[dot], w, 0, at) for w in RULES[way[dot]]]
            if way[dot] in EMPTY:
                new.append((head, way, dot + 1, start))
        else:
            continue
        for item in new:
            if item not in found:
                found[item] = None
                waiting.append(item)
    return list(found)


def first_unfit(kinds):
    """The place of the first kind with which no text goes on, else None."""
    sets = [closed([("Text", RULES["Text"][0], 0, 0)], [], 0)]
    for at, kind in enumerate(kinds):
        items = [(h, w, d + 1, s) for h, w, d, s in sets[at] if d < len(w) and w[d] == kind]
        if not items:
            return at
        sets.append(closed(items, sets, at + 1))
    return None


def kinds_of(text):
    """The kinds of all words of a text, and their places."""
    kinds, places = [], []
    for number, row in enumerate(text, 1):
        bare = row.lstrip(" ")
        if not bare or bare.startswith("--"):
            continue
        at = len(row) - len(bare)
        kinds.append(f"I{at // 2}" if at % 2 == 0 else "odd")
        places.append((number, 1))
        behind = ""
        while at < len(row):
            found = WORD.match(row, at)
            glued = behind and row[at] in "abcdefghijklmnopqrstuvwxyz0123456789"
            places.append((number, at + 1))
            if found is None or glued:
                kinds.append("none")
                return kinds, places
            word = found.group()
            kinds.append(word if word in KEYWORDS or not word[0].isalnum() else "NUMBER" if word[0].isdigit() else "NAME")
            at = found.end()
            behind = word[0].isalnum()
            while at < len(row) and row[at] == " ":
                at, behind = at + 1, False
        kinds.append(".")
        places.append((number, len(row.rstrip(" ")) + 1))
    return kinds + ["EOT"], places + [(len(text) + 1, 1)]


def place_by_grammar(text):
    kinds, places = kinds_of(text)
    at = first_unfit(kinds)
    return None if at is None else places[at]


def place_by_reader(text):
    try:
        read_chart(text)
    except NoText as error:
        return (error.row, error.column)
    return None


SPOILS = ["(", ")", "+", "-", "<", "=", ",", " ", "  ", "0", "7", "x", "A", "#", " and ", " or ", " not ", " in ", " yes ",
          " do ", " to ", " if ", " done", "abcdefghi", "1234567890", " - ", "((", "))", "go ", "into "]


def spoiled(by, text):
    """A text that may be none, near one that is one."""
    rows = list(text)
    for _ in range(by.randint(1, 2)):
        k = by.randrange(len(rows))
        at = by.randint(0, len(rows[k]))
        pick = by.randint(0, 8)
        if pick < 4:
            rows[k] = rows[k][:at] + by.choice(SPOILS) + rows[k][at:]
        elif pick < 6:
            rows[k] = rows[k][:at] + rows[k][at + by.randint(1, 4):]
        elif pick == 6:
            rows.insert(k, by.choice(["", "-- x", "  ", by.choice(rows)]))
        elif pick == 7:
            other = by.randrange(len(rows))
            rows[k], rows[other] = rows[other], rows[k]
        elif len(rows) > 1:
            del rows[k]
    return rows


class TestOracle(unittest.TestCase):
    def same(self, text):
        self.assertEqual(place_by_reader(text), place_by_grammar(text), text)

    def test_texts_that_may_be_spoiled(self):
        refused = 0
        for seed in range(400):
            by = random.Random(seed)
            text = printed(Maker(seed).chart())
            rows = [row for row in text if len(row) < 60][:14] or text[:1]
            text = spoiled(by, rows)
            self.same(text)
            refused += place_by_reader(text) is not None
        self.assertGreater(refused, 200)

    def test_guards_of_any_words(self):
        words = ["(", "(", "(", ")", ")", "+", "-", "<", "=", "a", "1", "yes", "in a", "not", "and", "or", "do", ","]
        fit = 0
        for seed in range(1500):
            by = random.Random(seed)
            told = []
            # Words are put on one by one, so that most of them go on well.
            for _ in range(by.randint(1, 14)):
                for _ in range(4):
                    more = told + [by.choice(words)]
                    at = place_by_reader(["leaf r", "  go done if " + " ".join(more)])
                    if at is None or at[1] > len("  go done if " + " ".join(more)):
                        break
                told = more
            text = ["leaf r", "  go done if " + " ".join(told)]
            self.same(text)
            fit += place_by_reader(text) is None
        self.assertGreater(fit, 30)

    def test_outlines_of_any_rows(self):
        rows = ["one a", "all a", "leaf a", "end a", "back a", "deep a", "into raise h", "out raise h", "go done",
                "fact a 0 1 0", "on h", "-- x", ""]
        fit = 0
        for seed in range(1500):
            by = random.Random(seed)
            told = [by.choice(["one r", "all r", "leaf r", "on h", "fact a 0 1 0", "back r"])]
            for _ in range(by.randint(0, 9)):
                for _ in range(6):
                    more = told + [" " * by.choice([0, 2, 2, 4, 4, 6, 8, 3]) + by.choice(rows)]
                    at = place_by_reader(more)
                    if at is None or at[0] > len(more):
                        break
                told = more
            self.same(told)
            fit += place_by_reader(told) is None
        self.assertGreater(fit, 50)


if __name__ == "__main__":
    unittest.main()
