"""Leading a standing of one chart to another chart."""

from deepstands.standings import last_stood, may_keep


class Lead:
    """The way from a plan's chart to another plan's, by a dict of names, for a standing of the first one.

    What is wrong is told as a tuple of a refusal's word and its fields."""

    def __init__(self, plan, other, standing, names):
        self.plan = plan
        self.other = other
        self.stood, self.worths, self.ages, self.kept = standing
        self.by_names = names

    def image(self, name):
        """What a name stands for."""
        return self.by_names.get(name, name)

    def number_there(self, name):
        """The number of the image of a stand."""
        return self.other.numbers[self.image(name)]

    def gone_wrong(self):
        """The first that is stood in whose image isn't there."""
        for name in self.stood:
            if not self.other.tree.is_plain(self.image(name)):
                return ("Gone", name)
        return None

    def apart_wrong(self):
        """The first two of the last ones whose images can't be stood in together."""
        names = last_stood(self.plan, self.stood)
        for at, one in enumerate(names):
            for other in names[at + 1:]:
                if not self.other.tree.together(self.number_there(one), self.number_there(other)):
                    return ("Apart", one, other)
        return None

    def numbers_stood(self):
        """The numbers of what is stood in then, in order."""
        other = self.other
        wanted = {}
        for name in last_stood(self.plan, self.stood):
            number = self.number_there(name)
            while number is not None:
                wanted[number] = True
                number = other.tree.above[number]
        found = []
        opened = [0]
        while opened:
            number = opened.pop()
            found.append(number)
            inner = other.inner(number)
            if other.stands[number][1] == "one":
                # As none of the last ones are apart, one of them is wanted at most.
                inner = [k for k in inner if k in wanted] or inner[:1]
            opened.extend(inner)
        return sorted(found)

    def moved_wrong(self, numbers):
        """The first that is stood in whose image isn't stood in then."""
        for name in self.stood:
            if self.number_there(name) not in numbers:
                return ("Moved", name)
        return None

    def worths_led(self):
        """The worths of the other chart's facts, whatever their spans."""
        led = {}
        for fact, worth in zip(self.plan.facts, self.worths):
            led.setdefault(self.image(fact[0]), worth)
        return tuple([led.get(name, first) for name, _, _, first in self.other.facts])

    def beyond_wrong(self):
        """The first fact that would get a worth out of its span."""
        for (name, low, high, _), worth in zip(self.other.facts, self.worths_led()):
            if not low <= worth <= high:
                return ("Beyond", name, None)
        return None

    def ages_led(self, numbers):
        """The ages of what is stood in then."""
        ages = dict(self.ages)
        led = {}
        for name in self.stood:
            led.setdefault(self.number_there(name), ages.get(name, 0))
        greatest = self.other.tree.greatest
        aging = [number for number in numbers if number in greatest]
        return tuple([(self.other.names[k], min(led.get(k, 0), greatest[k] + 1)) for k in aging])

    def kept_led(self):
        """What the other chart's markers keep."""
        first = {}
        for marker, names in self.kept:
            first.setdefault(self.image(marker), names)
        kept = []
        for number, stand in enumerate(self.other.stands):
            if stand[1] in ("back", "deep") and stand[0] in first:
                images = [self.image(name) for name in first[stand[0]]]
                numbers = [self.other.numbers[image] for image in images if image in self.other.numbers]
                names = tuple([self.other.names[k] for k in sorted(numbers)])
                if len(numbers) == len(images) and may_keep(self.other, number, names):
                    kept.append((stand[0], names))
        return tuple(kept)

    def outcome(self):
        """The standing to which it leads, None where it leads to none; and what is wrong then."""
        wrong = self.gone_wrong() or self.apart_wrong()
        if wrong is not None:
            return None, wrong
        numbers = self.numbers_stood()
        wrong = self.moved_wrong(numbers) or self.beyond_wrong()
        if wrong is not None:
            return None, wrong
        names = tuple([self.other.names[number] for number in numbers])
        return (names, self.worths_led(), self.ages_led(numbers), self.kept_led()), None
