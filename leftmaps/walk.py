"""Walks: books that learn by answers."""

from leftmaps.bits import Sets, left_by
from leftmaps.books import Book, need_number
from leftmaps.errors import BadNumber
from leftmaps.places import need_three
from leftmaps.questions import many_maps, next_question
from leftmaps.verdicts import need_possible


class Walk:
    """A book that learns by answers."""

    def __init__(self, book):
        self._book = need_possible(book)
        self._first = len(book)

    def __len__(self):
        return len(self._book.facts[self._first:])

    def __eq__(self, other):
        return isinstance(other, Walk) and self._book == other._book

    @property
    def book(self):
        """The book now."""
        return self._book

    def many(self):
        """How many maps are left."""
        return many_maps(left_by(self._book))

    def answer(self, three, is_left):
        """Learns whether the last place of the three lies to the left of the other two."""
        need_three(self._book.places, three)
        if not isinstance(is_left, bool):
            raise BadNumber(is_left)
        atom = ("left",) + three
        self.learn(atom if is_left else ("not", atom))

    def learn(self, claim):
        """Learns a further fact."""
        self._book = need_possible(self._book.adding(claim))

    def undo(self, many=1):
        """Takes the last facts that were learnt back."""
        need_number(many, 1, len(self))
        facts = self._book.facts
        self._book = Book(self._book.places, facts[:len(facts) - many])

    def surely(self, three):
        """True if the three is so in all maps left, False if it is so in none, None otherwise."""
        need_three(self._book.places, three)
        sets = Sets(self._book.places)
        left = sets.in_all(self._book.facts)
        part = left & sets.lefts[three]
        return part == left if part in (0, left) else None

    def ask(self):
        """The next question of the book now."""
        return next_question(self._book)

    def trial(self):
        """What a with statement takes, behind which the walk is what it was ahead of it."""
        return Trial(self)


class Trial:
    """Gives a walk to the block of a with statement, and sets it back when the block ends."""

    def __init__(self, walk):
        self.walk = walk
        self.ahead = walk.book

    def __enter__(self):
        self.ahead = self.walk.book
        return self.walk

    def __exit__(self, kind, value, trace):
        walk = self.walk
        walk._book = self.ahead


def tried(walk, function):
    """What the function returns for the walk, in a trial."""
    with walk.trial() as same:
        return function(same)
