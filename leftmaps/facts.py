"""Facts that are needless, lists of facts from which a claim follows, and books that the same maps keep."""

from leftmaps.bits import Sets, left_by, maps_in
from leftmaps.claims import need_claim
from leftmaps.errors import BadPlaces
from leftmaps.maps import spots_of
from leftmaps.verdicts import need_possible


def needless(book):
    """The numbers of the facts that are needless, each by itself, ascending."""
    need_possible(book)
    sets = Sets(book.places)
    facts = book.facts
    left = sets.in_all(facts)
    return tuple([at for at in range(len(facts)) if sets.in_all(facts[:at] + facts[at + 1:]) == left])


def least_facts(book, claim):
    """All least lists of facts for the claim, ascending."""
    need_claim(book.places, claim)
    need_possible(book)
    sets = Sets(book.places)
    # Each list of facts has a number, whose bits tell which facts are in it. Its doubts are the maps that keep these
    # facts, but of which the claim does not hold.
    doubts = [sets.every ^ sets.where(claim)]
    for fact in book.facts:
        kept = sets.where(fact)
        doubts = doubts + [doubt & kept for doubt in doubts]
    return tuple(sorted([bits_in(number) for number in range(len(doubts)) if is_least(doubts, number)]))


def bits_in(number):
    """The numbers of the bits that are set, ascending."""
    return tuple([at for at in range(number.bit_length()) if number >> at & 1])


def is_least(doubts, number):
    """Whether a list of facts leaves no doubt of the claim, but each list of all of these but one leaves some."""
    return doubts[number] == 0 and all([doubts[number ^ 1 << at] != 0 for at in bits_in(number)])


def alike(one, other):
    """Whether both books are alike."""
    return unlike_sets(one, other) == (0, 0)


def parted(one, other):
    """None if both books are alike, otherwise the number of one with spots of a map that keeps just that one."""
    for number, just in enumerate(unlike_sets(one, other)):
        if just != 0:
            return (number, spots_of(maps_in(one.places, just & -just)[0]))
    return None


def unlike_sets(one, other):
    """The set of the maps that keep just the first book, and of those that keep just the second one."""
    if one.places != other.places:
        raise BadPlaces(other.places)
    need_possible(one)
    need_possible(other)
    by_one, by_other = left_by(one), left_by(other)
    return (by_one & ~by_other, by_other & ~by_one)
