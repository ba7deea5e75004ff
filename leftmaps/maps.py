"""Maps: tables of turns that come from places in a plane."""

from leftmaps.errors import BadLot, BadPlace, BadPlaces, BadSpots, BadTurns
from leftmaps.places import LEAST_PLACES, MOST_PLACES
from leftmaps.places import is_lot, is_place, is_word, need_places, threes

# Five of these points lie like the places of any map of five, so each map has
# spots among them.
POINTS = ((0, 0), (0, 2), (1, 2), (2, 0), (2, 1), (3, 3))


class Map:
    """A table of turns for which there is a placing."""

    def __init__(self, places, turns):
        need_places(places)
        if not is_table(places, turns):
            raise BadTurns(None)
        lefts = lefts_of(places, turns)
        broken = first_broken(places, lefts)
        if broken is not None:
            raise BadTurns(broken)
        self.places = places
        self.turns = tuple(turns)
        self._lefts = lefts

    def __len__(self):
        return len(self.places)

    def __eq__(self, other):
        return isinstance(other, Map) and self.places == other.places and self.turns == other.turns

    def left(self, a, b, c):
        """Whether c lies to the left of a, b."""
        ahead = []
        for place in (a, b, c):
            if not is_place(self.places, place) or place in ahead:
                raise BadPlace(place)
            ahead.append(place)
        return (a, b, c) in self._lefts

    def mirrored(self):
        """The map in which all turns are the other way."""
        return Map(self.places, [not turn for turn in self.turns])

    def only(self, lot):
        """The map of the places of the lot alone."""
        if not is_lot(self.places, lot) or len(lot) < LEAST_PLACES:
            raise BadLot(lot)
        return Map(lot, [three in self._lefts for three in threes(lot)])

    def renamed(self, words):
        """The map in which the places, in their order, have these words as their names."""
        if not are_names(words, len(self)):
            raise BadPlaces(words)
        old = dict(zip(words, self.places))
        places = tuple(sorted(words))
        return Map(places, [(old[a], old[b], old[c]) in self._lefts for a, b, c in threes(places)])

    def grown(self, word):
        """All maps with the word as a further place that tell the same of the other places."""
        if len(self) == MOST_PLACES:
            raise BadPlaces(self.places)
        if not is_word(word) or word in self.places:
            raise BadPlace(word)
        places = tuple(sorted(self.places + (word,)))
        return maps_with(places, dict(zip(threes(self.places), self.turns)))


def is_table(places, thing):
    """Whether any value is a list or tuple with a truth value for each three."""
    if not isinstance(thing, (list, tuple)) or len(thing) != len(threes(places)):
        return False
    return all([isinstance(item, bool) for item in thing])


def are_names(thing, many):
    """Whether any value is a tuple of that many different words."""
    if not isinstance(thing, tuple) or len(thing) != many:
        return False
    return all([is_word(item) for item in thing]) and len(set(thing)) == many


def lefts_of(places, turns):
    """A dict with each (a, b, c) such that c lies to the left of a, b, in any order."""
    lefts = {}
    for (a, b, c), turn in zip(threes(places), turns):
        first, second = (a, b) if turn else (b, a)
        lefts[first, second, c] = True
        lefts[second, c, first] = True
        lefts[c, first, second] = True
    return lefts


def first_broken(places, lefts):
    """The name of the first rule that is not kept, None if all are."""
    broken = broken_round(places, lefts)
    if broken is None:
        broken = broken_within(places, lefts)
    return broken


def broken_round(places, lefts):
    """The name of the first rule on five places that is not kept, None if all are."""
    for t in places:
        for s in places:
            seen = [place for place in places if (t, s, place) in lefts]
            for p in seen:
                for q in [place for place in seen if (t, p, place) in lefts]:
                    for r in seen:
                        if (t, q, r) in lefts and (t, r, p) in lefts:
                            return ("round", t, s, p, q, r)
    return None


def broken_within(places, lefts):
    """The name of the first rule on four places that is not kept, None if all are."""
    for d in places:
        for a in places:
            for b in [place for place in places if a < place and (a, place, d) in lefts]:
                for c in [place for place in places if a < place and (b, place, d) in lefts]:
                    if (c, a, d) in lefts and (a, b, c) not in lefts:
                        return ("within", d, a, b, c)
    return None


def maps_with(places, known):
    """All maps of the places with the turns of the threes that are known, ascending by their turns."""
    tables = [()]
    for three in threes(places):
        turns = (known[three],) if three in known else (False, True)
        tables = [table + (turn,) for table in tables for turn in turns]
    kept = [table for table in tables if first_broken(places, lefts_of(places, table)) is None]
    return [Map(places, table) for table in kept]


def all_maps(places):
    """All maps of the places, ascending by their turns."""
    return maps_with(need_places(places), {})


def is_number(thing):
    """Whether any value is an integer; True and False are none."""
    return isinstance(thing, int) and not isinstance(thing, bool)


def is_spot(thing):
    """Whether any value is a triple of a word and two integers."""
    if not isinstance(thing, tuple) or len(thing) != 3:
        return False
    return is_word(thing[0]) and is_number(thing[1]) and is_number(thing[2])


def need_spots(thing):
    """Refuses any value but a list or tuple of 3 to 5 triples of different words and two integers."""
    if not isinstance(thing, (list, tuple)) or not LEAST_PLACES <= len(thing) <= MOST_PLACES:
        raise BadSpots(None)
    words = []
    for number, spot in enumerate(thing):
        if not is_spot(spot) or spot[0] in words:
            raise BadSpots(number)
        words.append(spot[0])


def turn_of(a, b, c):
    """Above 0 if spot c lies to the left of spots a, b, below 0 if to the right, 0 if on their line."""
    return (b[1] - a[1]) * (c[2] - a[2]) - (b[2] - a[2]) * (c[1] - a[1])


def from_spots(spots):
    """The map of the spots."""
    need_spots(spots)
    spot_at = {spot[0]: spot for spot in spots}
    places = tuple(sorted(list(spot_at)))
    turns = []
    for three in threes(places):
        a, b, c = [spot_at[word] for word in three]
        turn = turn_of(a, b, c)
        if turn == 0:
            raise BadSpots(three)
        turns.append(turn > 0)
    return Map(places, turns)


def spots_of(chart):
    """Spots of which it is the map."""
    return with_further(chart, ())


def with_further(chart, spots):
    """The spots of the first places with such for all others behind them, None if there are none."""
    if len(spots) == len(chart):
        return spots
    place = chart.places[len(spots)]
    for x, y in POINTS:
        found = None
        if fits(chart, spots, (place, x, y)):
            found = with_further(chart, spots + ((place, x, y),))
        if found is not None:
            return found
    return None


def fits(chart, spots, further):
    """Whether a further spot lies to each two of the spots as the map tells."""
    for at, one in enumerate(spots):
        for other in spots[at + 1:]:
            turn = turn_of(one, other, further)
            if turn == 0 or (turn > 0) != chart.left(one[0], other[0], further[0]):
                return False
    return True
