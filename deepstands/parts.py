"""The forms of what stands are made of, and the names that are found in it.

Every chart that is handed in is looked over, so all parts of one kind are looked at together, those of terms and
guards level by level: a call for each part would take longer than the looking itself."""

from deepstands.kinds import GREATEST, is_name

MOST_WITHIN = 10
GREATEST_WAIT = 99
YES = ("yes",)
DONE = ("done",)


class Parts:
    """What is found in moves and deeds of a chart with facts and happenings of these names.

    The names that are noted may be anything till are_named was asked; each method that looks at parts tells whether
    they have their form but for these."""

    def __init__(self, facts, happenings):
        self.facts = facts
        self.happenings = happenings
        # What was met, and is still to be looked at.
        self.guards = []
        self.deeds = []
        self.terms = []
        # Names of facts and happenings that aren't there, of stands asked for by in, of what is said, tuples of goals.
        self.strange_facts = []
        self.strange_happenings = []
        self.asked = []
        self.words = {}
        self.goals = []
        self.many_moves = 0
        # By the numbers of stands the greatest n of an after; those that have a done.
        self.greatest = {}
        self.done_movers = {}

    def take(self, moves, deeds):
        """Looks at moves and, besides theirs, at deeds."""
        self.deeds.extend(deeds)
        return self.take_moves([(0, moves)]) and self.take_rest()

    def take_rest(self):
        """Looks at all that was met."""
        return self.take_deeds() and self.take_levels()

    def take_moves(self, movers):
        """Looks at moves, tuples (number, moves) by the numbers of their stands, but for their guards and deeds."""
        happenings, greatest = self.happenings, self.greatest
        all_guards, all_deeds, all_goals = self.guards, self.deeds, self.goals
        for number, moves in movers:
            for move in moves:
                if not isinstance(move, tuple) or len(move) != 4:
                    return False
                when, guard, deeds, goals = move
                if not isinstance(when, tuple) or not isinstance(goals, tuple):
                    return False
                if len(when) == 2:
                    word, thing = when
                    if word == "on":
                        if thing not in happenings:
                            self.strange_happenings.append(thing)
                    elif word != "after" or not isinstance(thing, int) or thing is True or thing is False:
                        return False
                    elif not 1 <= thing <= GREATEST_WAIT:
                        return False
                    elif thing > greatest.get(number, 0):
                        greatest[number] = thing
                elif when == DONE:
                    self.done_movers[number] = True
                else:
                    return False
                # Most moves have no guard, and many no deeds.
                if guard != YES:
                    all_guards.append(guard)
                if deeds and isinstance(deeds, tuple):
                    all_deeds.extend(deeds)
                elif deeds != ():
                    return False
                if goals:
                    all_goals.append(goals)
        self.many_moves = sum([len(moves) for _, moves in movers])
        return True

    def take_deeds(self):
        """Looks at the deeds that were met but for their terms."""
        facts, terms = self.facts, self.terms
        for deed in self.deeds:
            if not isinstance(deed, tuple):
                return False
            many = len(deed)
            if many == 3:
                word, name, term = deed
                if word == "set":
                    if name not in facts:
                        self.strange_facts.append(name)
                elif word != "say" or not isinstance(name, str):
                    return False
                else:
                    self.words[name] = True
                terms.append(term)
            elif many == 2:
                word, name = deed
                if word != "raise":
                    return False
                if name not in self.happenings:
                    self.strange_happenings.append(name)
            else:
                return False
        return True

    def take_levels(self):
        """Looks at the guards and terms that were met, and at all in them."""
        guards, terms = self.guards, self.terms
        for _ in range(MOST_WITHIN):
            guards_within, terms_within = [], []
            if guards and not self.take_guards(guards, guards_within, terms_within):
                return False
            if terms and not self.take_terms(terms, terms_within):
                return False
            if not guards_within and not terms_within:
                return True
            guards, terms = guards_within, terms_within
        return False

    def take_guards(self, guards, guards_within, terms_within):
        """Looks at guards; what stands straight in them is put to the lists."""
        for guard in guards:
            if not isinstance(guard, tuple):
                return False
            many = len(guard)
            if many == 3:
                word, one, other = guard
                if word == "both" or word == "either":
                    guards_within.append(one)
                    guards_within.append(other)
                elif word == "below" or word == "same":
                    terms_within.append(one)
                    terms_within.append(other)
                else:
                    return False
            elif many == 2:
                word, thing = guard
                if word == "in":
                    self.asked.append(thing)
                elif word == "not":
                    guards_within.append(thing)
                else:
                    return False
            elif guard != YES:
                return False
        return True

    def take_terms(self, terms, within):
        """Looks at terms; those straight in them are put to the list."""
        facts = self.facts
        for term in terms:
            if not isinstance(term, tuple):
                return False
            many = len(term)
            if many == 2:
                word, thing = term
                if word == "fact":
                    if thing not in facts:
                        self.strange_facts.append(thing)
                elif word != "num" or not isinstance(thing, int) or thing is True or thing is False:
                    return False
                elif thing < 0 or thing > GREATEST:
                    return False
            elif many == 3:
                word, one, other = term
                if word != "sum" and word != "less":
                    return False
                within.append(one)
                within.append(other)
            else:
                return False
        return True

    def are_named(self):
        """Whether all that was noted are NAMES."""
        for things in (self.strange_facts, self.strange_happenings, list(self.words), self.asked, *self.goals):
            for thing in things:
                if not is_name(thing):
                    return False
        return True
