"""Rounds of all places, their crossings, and what undoing a crossing gives."""

from leftmaps.errors import BadRound
from leftmaps.looks import meet
from leftmaps.places import is_place, need_places


def all_rounds(places):
    """All rounds of the places, ascending."""
    need_places(places)
    rows = [places[:1]]
    for _ in places[1:]:
        rows = [row + (place,) for row in rows for place in places if place not in row]
    return tuple([row for row in rows if row[1] < row[-1]])


def is_round(places, thing):
    """Whether any value is a round of the places."""
    if not isinstance(thing, tuple) or not all([is_place(places, item) for item in thing]):
        return False
    return tuple(sorted(thing)) == places and thing[0] == places[0] and thing[1] < thing[-1]


def need_round(chart, thing):
    """The value itself, which is a round of the places of the map."""
    if not is_round(chart.places, thing):
        raise BadRound(thing)
    return thing


def legs(tour):
    """The legs of the round, each one from the place with its number to the next one."""
    return [tuple(sorted([a, b])) for a, b in zip(tour, tour[1:] + tour[:1])]


def crossed_numbers(chart, tour):
    """The pairs of numbers of legs that cross, the lesser number first."""
    found = legs(tour)
    numbers = range(len(found))
    return [(low, high) for low in numbers for high in numbers if low < high and meet(chart, found[low], found[high])]


def crossings(chart, tour):
    """The pairs of legs of the round that cross, ascending."""
    need_round(chart, tour)
    found = legs(tour)
    return tuple(sorted([tuple(sorted([found[low], found[high]])) for low, high in crossed_numbers(chart, tour)]))


def is_clean(chart, tour):
    """Whether no two legs of what is known to be a round cross."""
    return crossed_numbers(chart, tour) == []


def clean_rounds(chart):
    """All clean rounds of the map, ascending."""
    return tuple([tour for tour in all_rounds(chart.places) if is_clean(chart, tour)])


def undone(chart, tour):
    """All rounds that undoing one crossing of the round gives, ascending."""
    need_round(chart, tour)
    return rounds_behind(chart, tour)


def rounds_behind(chart, tour):
    """All rounds that undoing one crossing gives of what is known to be a round, ascending."""
    turned = [turned_between(tour, low, high) for low, high in crossed_numbers(chart, tour)]
    return tuple(sorted(set(turned)))


def turned_between(tour, low, high):
    """The round in which the places between the two legs with these numbers stand the other way round."""
    middle = tour[low + 1:high + 1]
    turned = tour[:low + 1] + middle[::-1] + tour[high + 1:]
    # The first place stays the first one: only the direction may have to change.
    return turned if turned[1] < turned[-1] else turned[:1] + turned[:0:-1]


def longest_undoing(chart, tour):
    """A longest tuple of rounds from the round on, each one behind an undone crossing of the one ahead."""
    need_round(chart, tour)
    return longest_from(chart, tour)


def longest_from(chart, tour):
    """A longest tuple of rounds from what is known to be a round on."""
    longest = ()
    for behind in rounds_behind(chart, tour):
        row = longest_from(chart, behind)
        if len(row) > len(longest):
            longest = row
    return (tour,) + longest


def check_undoing(chart, tour, thing):
    """Whether any value is a tuple of rounds from the round on, by undone crossings, to a clean round."""
    need_round(chart, tour)
    if not isinstance(thing, tuple) or not all([is_round(chart.places, item) for item in thing]):
        return False
    if thing[:1] != (tour,) or not is_clean(chart, thing[-1]):
        return False
    return all([behind in rounds_behind(chart, ahead) for ahead, behind in zip(thing, thing[1:])])
