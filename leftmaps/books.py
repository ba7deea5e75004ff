"""Books: places with facts, which are claims on them."""

from leftmaps.claims import is_claim, is_so
from leftmaps.errors import BadFacts, BadNumber
from leftmaps.maps import Map, is_number
from leftmaps.places import need_places

MOST_FACTS = 12


class Book:
    """Places with 0 to 12 facts."""

    def __init__(self, places, facts=()):
        need_places(places)
        if not isinstance(facts, (list, tuple)) or len(facts) > MOST_FACTS:
            raise BadFacts(None)
        for number, fact in enumerate(facts):
            if not is_claim(places, fact):
                raise BadFacts(number)
        self.places = places
        self.facts = tuple(facts)

    def __len__(self):
        return len(self.facts)

    def __getitem__(self, at):
        return self.facts[need_number(at, 0, len(self.facts) - 1)]

    def __iter__(self):
        raise TypeError("a Book is not iterated over")

    def __eq__(self, other):
        return isinstance(other, Book) and self.places == other.places and self.facts == other.facts

    def adding(self, claim):
        """The book with a further fact at its end."""
        if not is_claim(self.places, claim):
            raise BadFacts(len(self.facts))
        return Book(self.places, self.facts + (claim,))

    def without(self, number):
        """The book without the fact that has this number."""
        need_number(number, 0, len(self.facts) - 1)
        return Book(self.places, self.facts[:number] + self.facts[number + 1:])

    def keeps(self, chart):
        """Whether any value is a Map that keeps the book."""
        if not isinstance(chart, Map) or chart.places != self.places:
            return False
        return all([is_so(chart, fact) for fact in self.facts])


def need_number(thing, least, most):
    """The value itself, which is an integer from the least one to the greatest one."""
    if not is_number(thing) or not least <= thing <= most:
        raise BadNumber(thing)
    return thing
