"""Which states tell the same of all rows, and the shortest rows that part those that don't.

A state tells something of each letter, and goes on to a state by it. States are parted in rounds: ahead of the first
round those that tell unlike of a letter, in each round those of which a letter leads to such as were parted in the
round before. So two are parted in round r just where a shortest row that parts them has r + 1 letters."""


class Parting:
    """States by numbers, tells and targets of each a tuple or list by letters, parted as far as they may be.

    A block is what wasn't parted as yet. Where one is parted, its greatest part keeps its number and the others get new
    ones; only what leads to these is looked at in the next round, which is few in all."""

    def __init__(self, tells, targets):
        self.tells = tells
        self.targets = targets
        self.blocks = []
        # By the numbers of blocks their states; in which round, and off which block, they were parted, -1 of the first.
        self.members = []
        self.rounds = []
        self.parents = []
        # Of each state tuples (letter, state) of what leads to it.
        self.sources = [[] for _ in targets]
        for state, row in enumerate(targets):
            for letter, target in enumerate(row):
                self.sources[target].append((letter, state))
        self.part_all()

    def part_all(self):
        """Parts all states."""
        first = {}
        for state, told in enumerate(self.tells):
            if told not in first:
                first[told] = self.new_block(0, -1)
            self.blocks.append(first[told])
            self.members[first[told]][state] = True
        fresh = list(first.values())
        number = 0
        while fresh:
            number += 1
            fresh = self.part_by(fresh, number)

    def new_block(self, number, parent):
        """The number of a new block, parted off another one in a round."""
        self.members.append({})
        self.rounds.append(number)
        self.parents.append(parent)
        return len(self.members) - 1

    def part_by(self, fresh, number):
        """Parts, in a round, what leads to fresh blocks by a letter from what doesn't; told are the new blocks."""
        marks = {}
        for block in fresh:
            for target in self.members[block]:
                for letter, state in self.sources[target]:
                    marks.setdefault(state, []).append((letter, block))
        touched = {}
        for state in marks:
            parts = touched.setdefault(self.blocks[state], {})
            parts.setdefault(tuple(sorted(marks[state])), []).append(state)
        found = []
        for block in touched:
            found.extend(self.part(block, list(touched[block].values()), marks, number))
        return found

    def part(self, block, parts, marks, number):
        """Parts a block into these parts and what is in none of them; told are the new blocks."""
        members = self.members[block]
        rest = len(members) - sum([len(part) for part in parts])
        sizes = [len(part) for part in parts]
        if rest < max(sizes):
            if rest > 0:
                parts = parts + [[state for state in members if state not in marks]]
                sizes.append(rest)
            kept = sizes.index(max(sizes))
            self.members[block] = {state: True for state in parts[kept]}
            parts = parts[:kept] + parts[kept + 1:]
        else:
            for part in parts:
                for state in part:
                    del members[state]
        return [self.part_off(block, part, number) for part in parts]

    def part_off(self, block, part, number):
        """Makes a part of a block a new one; told is its number."""
        fresh = self.new_block(number, block)
        for state in part:
            self.members[fresh][state] = True
            self.blocks[state] = fresh
        return fresh

    def round_of(self, one, other):
        """In which round two states were parted; None where they tell the same of all rows."""
        number = None
        block, another = self.blocks[one], self.blocks[other]
        # Of two blocks the later one is not the one that the other was parted off.
        while block != another:
            later = max(block, another)
            number = self.rounds[later]
            block, another = min(block, another), self.parents[later]
        return number

    def row_apart(self, one, other):
        """A shortest row, as a list of letters, whose last one is told unlike of two states, the first of these; None
        where none is."""
        number = self.round_of(one, other)
        if number is None:
            return None
        row = []
        while number > 0:
            number -= 1
            for letter, target in enumerate(self.targets[one]):
                if self.round_of(target, self.targets[other][letter]) == number:
                    row.append(letter)
                    one, other = target, self.targets[other][letter]
                    break
        unlike = [told != self.tells[other][letter] for letter, told in enumerate(self.tells[one])]
        return [*row, unlike.index(True)]
