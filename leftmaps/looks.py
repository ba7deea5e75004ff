"""What a map tells: its border, which ways cross, what comes into sight, what can be cut off."""

from leftmaps.errors import BadLot
from leftmaps.places import besides, is_lot, need_lot, need_others, need_place, need_way, threes, ways


def border(chart):
    """The places at the border, the least first, each one followed by its next one."""
    behind = {}
    for place in chart.places:
        near = next_at(chart, place, besides(chart.places, (place,)))
        if near is not None:
            behind[place] = near
    edge = [min(list(behind))]
    while len(edge) < len(behind):
        edge.append(behind[edge[-1]])
    return tuple(edge)


def next_at(chart, place, others):
    """The next one of a place at the border of the map of the others with it, None if it is not there."""
    for near in others:
        if all([chart.left(place, near, far) for far in others if far != near]):
            return near
    return None


def layers(chart):
    """The border, and behind it the lot of the places that are left, if some are."""
    edge = border(chart)
    rest = besides(chart.places, edge)
    # Three places at least are at the border, so of five at most no further map is left.
    return (edge, rest) if rest else (edge,)


def is_within(chart, place, lot):
    """Whether the place is within the lot."""
    need_place(chart.places, place)
    need_others(chart.places, place, lot)
    return next_at(chart, place, lot) is None


def do_cross(chart, one, other):
    """Whether two ways cross."""
    need_way(chart.places, one)
    need_way(chart.places, other)
    return meet(chart, one, other)


def meet(chart, one, other):
    """Whether two ways cross, both known to be ways of the map."""
    a, b = one
    c, d = other
    if a in other or b in other:
        return False
    return chart.left(a, b, c) != chart.left(a, b, d) and chart.left(c, d, a) != chart.left(c, d, b)


def sight(chart, place):
    """All other places in the order in which they are seen from the place, turning to the left."""
    need_place(chart.places, place)
    first, *others = besides(chart.places, (place,))
    lefts = [other for other in others if chart.left(place, first, other)]
    rights = [other for other in others if other not in lefts]
    return (first,) + turning(chart, place, lefts) + turning(chart, place, rights)


def turning(chart, place, others):
    """Places on one side of a line through the place, in the order in which they are seen from it."""
    ahead = {}
    for one in others:
        ahead[one] = len([other for other in others if other != one and chart.left(place, other, one)])
    return tuple(sorted(others, key=lambda seen: ahead[seen]))


def can_cut(chart, lot):
    """Whether the lot can be cut off."""
    need_lot(chart.places, lot)
    return are_apart(chart, lot, besides(chart.places, lot))


def are_apart(chart, lot, rest):
    """Whether no place of one lot is within three of the other one, and no way of one crosses one of the other."""
    if reaches_into(chart, lot, rest) or reaches_into(chart, rest, lot):
        return False
    return not any([meet(chart, one, other) for one in ways(lot) for other in ways(rest)])


def reaches_into(chart, lot, rest):
    """Whether some place of the lot is within three places of the rest."""
    return any([next_at(chart, place, three) is None for place in lot for three in threes(rest)])


def meeting(chart, four):
    """The parting of four places in two lots that meet."""
    if not is_lot(chart.places, four) or len(four) != 4:
        raise BadLot(four)
    lots = [(place,) for place in four] + [way for way in ways(four) if four[0] in way]
    partings = [(lot, besides(four, lot)) for lot in lots]
    # Just one of the partings meets.
    met = [parting for parting in partings if not are_apart(chart, parting[0], parting[1])]
    return tuple(sorted(list(met[0])))
