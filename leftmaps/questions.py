"""Questions for the turns of threes, and the fewest that settle a claim."""

from leftmaps.bits import Sets
from leftmaps.claims import at_border, need_claim
from leftmaps.errors import TooMany
from leftmaps.trees import is_case, is_end
from leftmaps.verdicts import need_possible

MOST_LEFT = 40


def next_question(book):
    """The first of the threes whose greater part of the maps left is least, None if just one map is left."""
    need_possible(book)
    sets = Sets(book.places)
    parts = partings(sets, sets.in_all(book.facts))
    return min(parts, key=greater_part)[0] if parts else None


def partings(sets, left):
    """Each three that parts the maps left, ascending, with the set of those in which it is True and of the rest."""
    found = [(three, left & sets.lefts[three]) for three in sets.lots]
    return [(three, part, left ^ part) for three, part in found if part not in (0, left)]


def greater_part(parting):
    """How many maps are in the greater part of a parting."""
    return max(many_maps(parting[1]), many_maps(parting[2]))


def many_maps(number):
    """How many maps are in a set."""
    return f"{number:b}".count("1")


class Search:
    """The search for the fewest questions that settle a claim by the maps left."""

    def __init__(self, book, claim):
        need_claim(book.places, claim)
        need_possible(book)
        self.sets = Sets(book.places)
        self.kept = self.sets.in_all(book.facts)
        self.held = self.sets.where(claim)
        self.found = {}
        if many_maps(self.kept) > MOST_LEFT:
            raise TooMany(MOST_LEFT)

    def is_settled(self, left):
        """Whether the claim holds of all maps left, or of none."""
        return left & self.held in (0, left)

    def fewest_by(self, left):
        """The fewest questions that settle the claim by these maps left."""
        if self.is_settled(left):
            return 0
        if left not in self.found:
            self.found[left] = 1 + min([self.fewest_behind(parting) for parting in partings(self.sets, left)])
        return self.found[left]

    def fewest_behind(self, parting):
        """The fewest questions that settle the claim by each part of a parting."""
        return max(self.fewest_by(parting[1]), self.fewest_by(parting[2]))

    def plan_by(self, left):
        """A plan with the fewest questions by these maps left."""
        if self.is_settled(left):
            return ()
        three, part, rest = min(partings(self.sets, left), key=self.fewest_behind)
        return (three, self.plan_by(part), self.plan_by(rest))

    def is_plan_by(self, left, most, thing):
        """Whether any value is a plan by these maps left, with at most so many questions."""
        if self.is_settled(left):
            return is_end(thing)
        if most == 0 or not is_case(self.sets.places, thing):
            return False
        part = left & self.sets.lefts[thing[0]]
        if part in (0, left):
            return False
        return self.is_plan_by(part, most - 1, thing[1]) and self.is_plan_by(left ^ part, most - 1, thing[2])


def fewest(book, claim):
    """The fewest questions that settle the claim."""
    search = Search(book, claim)
    return search.fewest_by(search.kept)


def plan(book, claim):
    """A plan of questions that settles the claim with the fewest of them."""
    search = Search(book, claim)
    return search.plan_by(search.kept)


def is_plan(book, claim, thing):
    """Whether any value is such a plan."""
    search = Search(book, claim)
    return search.is_plan_by(search.kept, search.fewest_by(search.kept), thing)


def sure_places(book):
    """The lot of the places that are at the border in all maps left, and of those that are so in some of them."""
    need_possible(book)
    sets = Sets(book.places)
    left = sets.in_all(book.facts)
    edge = [(place, left & sets.where(at_border(book.places, place))) for place in book.places]
    return (tuple([place for place, part in edge if part == left]), tuple([place for place, part in edge if part != 0]))
