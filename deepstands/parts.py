"""The forms of what stands are made of, and the names that are found in it.

Every chart that is handed in is looked over, so all parts of one kind are looked at together, those of terms and
guards level by level: a call for each part would take longer than the looking itself."""

from deepstands.kinds import GREATEST, is_name

MOST_WITHIN = 10
GREATEST_WAIT = 99
YES = ("yes",)
DONE = ("done",)


class Parts:
    """What is found in moves and deeds of a chart with facts and happenings of these names.

    The names that are noted may be anything till has_names was asked; each method that looks at parts tells whether
    they have their form but for these."""

    def __init__(self, facts, happenings):
        self.facts = facts
        self.happenings = happenings
        # Names of facts and happenings that aren't there, of stands asked for by in, of what is said, tuples of goals.
        self.strange_facts = []
        self.strange_happenings = []
        self.asked = []
        self.words = {}
        self.goals = []
        # How many moves are by a done.
        self.dones = 0

    def take(self, moves, deeds):
        """Looks at moves and, besides theirs, at deeds."""
        guards, terms = [], []
        all_deeds = list(deeds)
        return (
            self.take_moves(moves, guards, all_deeds) and self.take_deeds(all_deeds, terms)
            and self.take_levels(guards, terms)
        )

    def take_moves(self, moves, guards, deeds):
        """Looks at moves; their guards and deeds are put to the lists."""
        for move in moves:
            if not isinstance(move, tuple) or len(move) != 4:
                return False
            when, guard, more, goals = move
            if not isinstance(more, tuple) or not isinstance(goals, tuple) or not isinstance(when, tuple):
                return False
            if len(when) == 2:
                word, thing = when
                if word == "on":
                    if thing not in self.happenings:
                        self.strange_happenings.append(thing)
                elif word != "after" or not isinstance(thing, int) or isinstance(thing, bool):
                    return False
                elif not 1 <= thing <= GREATEST_WAIT:
                    return False
            elif when == DONE:
                self.dones += 1
            else:
                return False
            # Most moves have no guard.
            if guard != YES:
                guards.append(guard)
            deeds.extend(more)
            if goals:
                self.goals.append(goals)
        return True

    def take_deeds(self, deeds, terms):
        """Looks at deeds; their terms are put to the list."""
        for deed in deeds:
            if not isinstance(deed, tuple):
                return False
            many = len(deed)
            if many == 3:
                word, name, term = deed
                if word == "set":
                    if name not in self.facts:
                        self.strange_facts.append(name)
                elif word != "say" or not isinstance(name, str):
                    return False
                else:
                    self.words[name] = True
                terms.append(term)
            elif many == 2:
                word, name = deed
                if word != "raise":
                    return False
                if name not in self.happenings:
                    self.strange_happenings.append(name)
            else:
                return False
        return True

    def take_levels(self, guards, terms):
        """Looks at guards and terms, and at all in them."""
        for _ in range(MOST_WITHIN):
            guards_within, terms_within = [], []
            if guards and not self.take_guards(guards, guards_within, terms_within):
                return False
            if terms and not self.take_terms(terms, terms_within):
                return False
            if not guards_within and not terms_within:
                return True
            guards, terms = guards_within, terms_within
        return False

    def take_guards(self, guards, guards_within, terms_within):
        """Looks at guards; what stands straight in them is put to the lists."""
        for guard in guards:
            if not isinstance(guard, tuple):
                return False
            many = len(guard)
            if many == 3:
                word, one, other = guard
                if word == "both" or word == "either":
                    guards_within.append(one)
                    guards_within.append(other)
                elif word == "below" or word == "same":
                    terms_within.append(one)
                    terms_within.append(other)
                else:
                    return False
            elif many == 2:
                word, thing = guard
                if word == "in":
                    self.asked.append(thing)
                elif word == "not":
                    guards_within.append(thing)
                else:
                    return False
            elif guard != YES:
                return False
        return True

    def take_terms(self, terms, within):
        """Looks at terms; those straight in them are put to the list."""
        facts = self.facts
        for term in terms:
            if not isinstance(term, tuple):
                return False
            many = len(term)
            if many == 2:
                word, thing = term
                if word == "fact":
                    if thing not in facts:
                        self.strange_facts.append(thing)
                elif word != "num" or not isinstance(thing, int) or thing is True or thing is False:
                    return False
                elif thing < 0 or thing > GREATEST:
                    return False
            elif many == 3:
                word, one, other = term
                if word != "sum" and word != "less":
                    return False
                within.append(one)
                within.append(other)
            else:
                return False
        return True

    def has_names(self, known):
        """Whether all that was noted are NAMES; those known are."""
        for things in (self.strange_facts, self.strange_happenings, list(self.words), self.asked, *self.goals):
            for thing in things:
                if not isinstance(thing, str) or thing not in known and not is_name(thing):
                    return False
        return True
