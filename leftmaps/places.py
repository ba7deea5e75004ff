"""Places, lots of them, and the names of the rules that turns keep."""

from leftmaps.errors import BadLot, BadPlace, BadPlaces

LEAST_PLACES = 3
MOST_PLACES = 5
MOST_LETTERS = 8


def is_word(thing):
    """Whether any value is a text of 1 to 8 letters from a to z."""
    if not isinstance(thing, str) or not 1 <= len(thing) <= MOST_LETTERS:
        return False
    return all(["a" <= letter <= "z" for letter in thing])


def is_ascending(texts):
    """Whether each text is less than the one behind it."""
    return all([one < other for one, other in zip(texts, texts[1:])])


def are_places(thing):
    """Whether any value is an ascending tuple of 3 to 5 different words."""
    if not isinstance(thing, tuple) or not LEAST_PLACES <= len(thing) <= MOST_PLACES:
        return False
    return all([is_word(item) for item in thing]) and is_ascending(thing)


def need_places(thing):
    """The value itself, which is places."""
    if not are_places(thing):
        raise BadPlaces(thing)
    return thing


def is_place(places, thing):
    """Whether any value is one of the places."""
    return isinstance(thing, str) and thing in places


def is_lot(places, thing):
    """Whether any value is a lot of the places."""
    if not isinstance(thing, tuple):
        return False
    return all([is_place(places, item) for item in thing]) and is_ascending(thing)


def need_place(places, thing):
    """The value itself, which is one of the places."""
    if not is_place(places, thing):
        raise BadPlace(thing)
    return thing


def need_lot(places, thing):
    """The value itself, which is a lot of the places."""
    if not is_lot(places, thing):
        raise BadLot(thing)
    return thing


def need_others(places, place, thing):
    """The value itself, which is a lot of three or more of the places, the one place not in it."""
    if not is_lot(places, thing) or len(thing) < LEAST_PLACES or place in thing:
        raise BadLot(thing)
    return thing


def is_way(places, thing):
    """Whether any value is a way of two of the places."""
    return is_lot(places, thing) and len(thing) == 2


def need_way(places, thing):
    """The value itself, which is a way of two of the places."""
    if not is_way(places, thing):
        raise BadLot(thing)
    return thing


def is_three(places, thing):
    """Whether any value is a lot of three of the places."""
    return is_lot(places, thing) and len(thing) == 3


def need_three(places, thing):
    """The value itself, which is a lot of three of the places."""
    if not is_three(places, thing):
        raise BadLot(thing)
    return thing


def besides(places, lot):
    """The lot of the places that are not in the other lot."""
    return tuple([place for place in places if place not in lot])


def threes(places):
    """The lots of three places, ascending."""
    return tuple([(a, b, c) for a in places for b in places if a < b for c in places if b < c])


def ways(places):
    """The lots of two places, ascending."""
    return tuple([(a, b) for a in places for b in places if a < b])


def rules(places):
    """The names of the rules of the places, ascending."""
    return round_rules(places) + within_rules(places)


def round_rules(places):
    """The names of the rules on five places, ascending."""
    return tuple([
        ("round", t, s, p, q, r)
        for t in places
        for s in places if s != t
        for p in places if p not in (t, s)
        for q in places if q not in (t, s, p)
        for r in places if r not in (t, s, p, q)
    ])


def within_rules(places):
    """The names of the rules on four places, ascending."""
    return tuple([
        ("within", d, a, b, c)
        for d in places
        for a in places if a != d
        for b in places if a < b and b != d
        for c in places if a < c and c not in (d, b)
    ])
