"""Claims on places, whether they hold of a map, and claims that tell what the looks tell."""

from leftmaps.errors import BadClaim
from leftmaps.places import besides, is_place, need_lot, need_others, need_place, need_places, need_way, threes, ways

MOST_DEEP = 8
MOST_CLAIMS = 300


def need_claim(places, thing):
    """The value itself, which is a claim on the places."""
    need_places(places)
    if not is_claim(places, thing):
        raise BadClaim(thing)
    return thing


def is_claim(places, thing):
    """Whether any value is a claim on the places."""
    return 1 <= many_claims(places, thing, MOST_DEEP) <= MOST_CLAIMS


def many_claims(places, thing, deep):
    """How many claims there are in any value, itself counted; 0 if it is no claim that is at most so deep."""
    if deep == 0:
        return 0
    if is_atom(places, thing):
        return 1
    parts = parts_of(thing)
    if parts is None:
        return 0
    counts = [many_claims(places, part, deep - 1) for part in parts]
    return 0 if 0 in counts else 1 + sum(counts)


def is_atom(places, thing):
    """Whether any value is an atom on the places."""
    if not isinstance(thing, tuple) or len(thing) != 4 or not is_word_of(thing[0], ("left",)):
        return False
    return all([is_place(places, item) for item in thing[1:]]) and len(set(thing[1:])) == 3


def parts_of(thing):
    """The tuple of what any value has within all, some or not, None if it has none of these forms."""
    if not isinstance(thing, tuple) or len(thing) != 2:
        return None
    if is_word_of(thing[0], ("not",)):
        return thing[1:]
    if is_word_of(thing[0], ("all", "some")) and isinstance(thing[1], tuple):
        return thing[1]
    return None


def is_word_of(thing, words):
    """Whether any value is one of the words."""
    return isinstance(thing, str) and thing in words


def holds(chart, claim):
    """Whether the claim holds of the map."""
    if not is_claim(chart.places, claim):
        raise BadClaim(claim)
    return is_so(chart, claim)


def is_so(chart, claim):
    """Whether what is known to be a claim holds of the map."""
    if claim[0] == "left":
        return chart.left(claim[1], claim[2], claim[3])
    if claim[0] == "not":
        return not is_so(chart, claim[1])
    told = [is_so(chart, part) for part in claim[1]]
    return all(told) if claim[0] == "all" else any(told)


def at_border(places, place):
    """A claim that holds of just those maps in which the place is at the border."""
    need_places(places)
    need_place(places, place)
    return border_claim(place, besides(places, (place,)))


def border_claim(place, others):
    """The claim that a place is at the border of the map of the others with it."""
    return ("some", tuple([all_left_of(place, near, others) for near in others]))


def all_left_of(place, near, others):
    """The claim that, going from the place to the near one, the others lie to the left."""
    return ("all", tuple([("left", place, near, far) for far in others if far != near]))


def lies_within(places, place, lot):
    """A claim that holds of just those maps in which the place is within the lot."""
    need_places(places)
    need_place(places, place)
    need_others(places, place, lot)
    return ("not", border_claim(place, lot))


def ways_cross(places, one, other):
    """A claim that holds of just those maps in which both ways cross."""
    need_places(places)
    need_way(places, one)
    need_way(places, other)
    return crossing_claim(one, other)


def crossing_claim(one, other):
    """The claim that two ways cross: going from end to end of them by turns, one turns to one side alone."""
    a, b = one
    c, d = other
    if a in other or b in other:
        return ("some", ())
    turns = (("left", a, c, b), ("left", c, b, d), ("left", b, d, a), ("left", d, a, c))
    return ("some", (("all", turns), ("not", ("some", turns))))


def is_cut(places, lot):
    """A claim that holds of just those maps in which the lot can be cut off."""
    need_places(places)
    need_lot(places, lot)
    rest = besides(places, lot)
    apart = [("not", crossing_claim(one, other)) for one in ways(lot) for other in ways(rest)]
    return ("all", tuple(outside(lot, rest) + outside(rest, lot) + apart))


def outside(lot, rest):
    """The claims that no place of the lot is within three places of the rest."""
    return [border_claim(place, three) for place in lot for three in threes(rest)]
