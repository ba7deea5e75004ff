"""Sets of maps as bits of integers."""

from leftmaps.books import need_number
from leftmaps.claims import need_claim
from leftmaps.maps import Map
from leftmaps.places import need_places, rules, threes
from leftmaps.turns import barred_turns, in_any_order


class Sets:
    """Of some places the set of all maps, and for each turn the set of the maps in which it is so."""

    def __init__(self, places):
        self.places = places
        self.lots = threes(places)
        tables = map_tables(places)
        self.every = (1 << len(tables)) - 1
        pairs = {}
        for three, worth in zip(self.lots, worths(places)):
            so = sum([1 << number for number, table in enumerate(tables) if table & worth])
            pairs[three] = (so, self.every ^ so)
        self.lefts = in_any_order(pairs)

    def where(self, claim):
        """The set of the maps of which what is known to be a claim holds."""
        if claim[0] == "left":
            return self.lefts[claim[1:]]
        if claim[0] == "not":
            return self.every ^ self.where(claim[1])
        return self.in_all(claim[1]) if claim[0] == "all" else self.in_some(claim[1])

    def in_all(self, claims):
        """The set of the maps of which all of these claims hold."""
        found = self.every
        for claim in claims:
            found = found & self.where(claim)
        return found

    def in_some(self, claims):
        """The set of the maps of which some of these claims hold."""
        found = 0
        for claim in claims:
            found = found | self.where(claim)
        return found


def worths(places):
    """What True for each three adds to the number of a table, all tables of turns being numbered ascending."""
    many = len(threes(places))
    return [1 << many - 1 - at for at in range(many)]


def table_sets(places):
    """For each turn the set of the tables, maps or not, in which it is so."""
    every = all_tables(places)
    pairs = {}
    for three, worth in zip(threes(places), worths(places)):
        # From the first table on, by turns, so many have False and as many have True.
        other = every // ((1 << worth) + 1)
        pairs[three] = (every ^ other, other)
    return in_any_order(pairs)


def all_tables(places):
    """The set of all tables of turns, maps or not."""
    return (1 << (1 << len(threes(places)))) - 1


def map_tables(places):
    """The numbers of the tables that are maps, ascending."""
    sets = table_sets(places)
    kept = all_tables(places)
    for name in rules(places):
        broken = kept
        for turn in barred_turns(name):
            broken = broken & sets[turn]
        kept = kept ^ broken
    return [number for number in range(kept.bit_length()) if kept >> number & 1]


def set_of(places, claim):
    """The set of the maps of which the claim holds."""
    need_claim(places, claim)
    return Sets(places).where(claim)


def left_by(book):
    """The set of the maps that keep the book."""
    return Sets(book.places).in_all(book.facts)


def maps_in(places, number):
    """The maps in the set, ascending."""
    need_places(places)
    tables = map_tables(places)
    need_number(number, 0, (1 << len(tables)) - 1)
    kept = [table for at, table in enumerate(tables) if number >> at & 1]
    return [Map(places, [table & worth != 0 for worth in worths(places)]) for table in kept]


def follows_by_bits(book, claim):
    """Whether every map that keeps the book is one of which the claim holds."""
    need_claim(book.places, claim)
    sets = Sets(book.places)
    return sets.in_all(book.facts) & ~sets.where(claim) == 0
