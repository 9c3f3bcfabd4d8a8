"""Leading a standing of one chart to another chart."""

from deepstands.kinds import MARKER_SORTS
from deepstands.plan import AGE_BITS
from deepstands.standings import many_inside, numbers_kept


class Lead:
    """The way from a plan's chart to another plan's, by a dict of names, for a code of the first one.

    What is wrong is told as a tuple of a refusal's word and its fields."""

    def __init__(self, plan, other, code, names):
        self.plan = plan
        self.other = other
        self.code = code
        self.names = plan.stood_at(code)
        self.stood = [plan.numbers[name] for name in self.names]
        self.by_names = names
        self.lacking = 0
        # The numbers of the images of what is stood in, None of those that are no stands there, or markers.
        markers, numbers = other.tree.markers, other.numbers
        if names or markers:
            self.images = [self.number_there(name) for name in self.names]
        else:
            self.images = [numbers.get(name) for name in self.names]

    def image(self, name):
        """What a name stands for."""
        return self.by_names.get(name, name)

    def number_there(self, name):
        """The number of the image of a stand, None where that is none, or a marker."""
        number = self.other.numbers.get(self.by_names.get(name, name))
        return None if number is None or self.other.stands[number][1] in MARKER_SORTS else number

    def apart_wrong(self, lasts):
        """The first two of the last ones, told by their places, whose images can't be stood in together."""
        for k, one in enumerate(lasts):
            for other in lasts[k + 1:]:
                if not self.other.tree.together(self.images[one], self.images[other]):
                    return ("Apart", self.names[one], self.names[other])
        return None

    def bits_wanted(self, lasts):
        """The bits of the images of the last ones, told by their places, and of all that have them in them; None where
        any two of these are apart."""
        above, stands = self.other.tree.above, self.other.stands
        ends = wanted = 0
        # How many more stands must be stood in straight in these than are.
        self.lacking = 1
        for place in lasts:
            number = self.images[place]
            if wanted >> number & 1:
                return None
            ends |= 1 << number
            while number is not None and not wanted >> number & 1:
                wanted |= 1 << number
                self.lacking += many_inside(stands[number]) - 1
                number = above[number]
            # Here it meets the way up from one ahead.
            if number is not None and (ends >> number & 1 or stands[number][1] == "one"):
                return None
        return wanted

    def bits_stood(self, wanted):
        """The bits of what is stood in then."""
        if self.lacking == 0:
            return wanted
        other = self.other
        found = wanted
        opened = [0]
        while opened:
            number = opened.pop()
            found |= 1 << number
            sort = other.stands[number][1]
            if sort == "all":
                opened.extend(other.inner(number))
            elif sort == "one":
                # As none of the last ones are apart, one of them is wanted at most.
                inner = other.inner(number)
                opened.extend([k for k in inner if wanted >> k & 1] or inner[:1])
        return found

    def moved_wrong(self, stood):
        """The first that is stood in whose image isn't stood in then."""
        for name, image in zip(self.names, self.images):
            if not stood >> image & 1:
                return ("Moved", name)
        return None

    def worths_led(self):
        """The worths of the other chart's facts, whatever their spans."""
        led = {}
        for name, worth in self.plan.worths_by_name(self.code).items():
            led.setdefault(self.image(name), worth)
        return tuple([led.get(name, first) for name, _, _, first in self.other.facts])

    def beyond_wrong(self, worths):
        """The first fact that would get a worth out of its span."""
        for (name, low, high, _), worth in zip(self.other.facts, worths):
            if not low <= worth <= high:
                return ("Beyond", name, None)
        return None

    def ages_led(self, code):
        """The bits of the ages of those that have one then, by the bits of what is stood in then."""
        greatest = self.other.tree.greatest
        ages = {number: self.code >> shift & AGE_BITS for number, shift in self.plan.aging_at(self.code)}
        led = {}
        for number, image in zip(self.stood, self.images):
            led.setdefault(image, ages.get(number, 0))
        bits = 0
        for number, shift in self.other.aging_at(code):
            bits |= min(led.get(number, 0), greatest[number] + 1) << shift
        return bits

    def kept_led(self):
        """The bits of what the other chart's markers keep."""
        names, other = self.plan.names, self.other
        first = {}
        for marker, numbers in self.plan.kept_at(self.code):
            first.setdefault(self.image(names[marker]), [names[number] for number in numbers])
        kept = []
        for marker, stand in enumerate(other.stands):
            if stand[1] in MARKER_SORTS and stand[0] in first:
                images = [self.image(name) for name in first[stand[0]]]
                there = sorted([other.numbers[image] for image in images if image in other.numbers])
                numbers = numbers_kept(other, marker, [other.names[number] for number in there])
                if len(there) == len(images) and numbers is not None:
                    kept.append((marker, tuple(numbers)))
        return other.bits_kept(tuple(kept))

    def outcome(self):
        """The code to which it leads, None where it leads to none; and what is wrong then."""
        if None in self.images:
            return None, ("Gone", self.names[self.images.index(None)])
        last = self.plan.tree.last
        lasts = [place for place, number in enumerate(self.stood) if last[number] == number]
        wanted = self.bits_wanted(lasts)
        if wanted is None:
            return None, self.apart_wrong(lasts)
        code = self.bits_stood(wanted)
        worths = self.worths_led()
        wrong = self.moved_wrong(code) or self.beyond_wrong(worths)
        if wrong is not None:
            return None, wrong
        if self.other.shifts:
            code |= self.ages_led(code)
        if self.plan.kept_at(self.code):
            code |= self.kept_led()
        return code | self.other.bits_of_worths(worths), None
