"""Plain sums at the points where places lie, to hold what is told of maps against.

A dict `at` tells the point of each place. None of the sums here uses the package's own.
"""

import functools
import itertools
import math
from fractions import Fraction

from leftmaps.maps import Map
from tests.samples import WORDS, area, placings, turns_at


@functools.cache
def placed(many):
    """Every map of that many places, beside points where its places lie so."""
    places = WORDS[:many]
    points_of = {}
    for points in placings(many):
        points_of.setdefault(turns_at(places, points), points)
    return [(Map(places, turns), dict(zip(places, points_of[turns]))) for turns in sorted(points_of)]


def all_placed():
    """Every map of 3, 4 and 5 places, beside points where its places lie so."""
    return placed(3) + placed(4) + placed(5)


def lots_of(places):
    """All lots of the places."""
    return [lot for many in range(len(places) + 1) for lot in itertools.combinations(places, many)]


def ways_of(places):
    """All ways of the places."""
    return list(itertools.combinations(places, 2))


def directions(at):
    """Some direction from each gap between those that stand upright on the ways."""
    upright = [(p[1] - q[1], q[0] - p[0]) for p, q in itertools.permutations(at.values(), 2)]
    return {(one[0] + other[0], one[1] + other[1]) for one in upright for other in upright} - {(0, 0)}


def cuts_at(at):
    """All lots that a line parts from the rest."""
    found = {(), tuple(sorted(at))}
    for dx, dy in directions(at):
        row = sorted((x * dx + y * dy, place) for place, (x, y) in at.items())
        for many in range(1, len(row)):
            if row[many - 1][0] < row[many][0]:
                found.add(tuple(sorted(place for _, place in row[many:])))
    return found


def angle(middle, point):
    """The direction from one point to another one."""
    return math.atan2(point[1] - middle[1], point[0] - middle[0])


def border_at(at):
    """The places that a line parts from all others, in their order around the middle of them."""
    edge = [place for place in at if (place,) in cuts_at(at)]
    middle = [sum(at[place][axis] for place in edge) / len(edge) for axis in (0, 1)]
    edge.sort(key=lambda place: angle(middle, at[place]))
    first = edge.index(min(edge))
    return tuple(edge[first:] + edge[:first])


def layers_at(at):
    """The border, that of the others and so on."""
    if len(at) < 3:
        return (tuple(sorted(at)),) if at else ()
    edge = border_at(at)
    return (edge,) + layers_at({place: at[place] for place in at if place not in edge})


def within_at(at, place, lot):
    """Whether a place lies in a triangle of three of the lot: its three parts are as large as the whole."""
    for a, b, c in itertools.combinations(lot, 3):
        parts = [abs(area(at[p], at[q], at[place])) for p, q in ((a, b), (b, c), (c, a))]
        if sum(parts) == abs(area(at[a], at[b], at[c])):
            return True
    return False


def cross_at(at, one, other):
    """Whether two ways meet between their ends."""
    (ax, ay), (bx, by) = at[one[0]], at[one[1]]
    (cx, cy), (dx, dy) = at[other[0]], at[other[1]]
    slant = (bx - ax) * (dy - cy) - (by - ay) * (dx - cx)
    if slant == 0:
        return False
    along = Fraction((cx - ax) * (dy - cy) - (cy - ay) * (dx - cx), slant)
    across = Fraction((cx - ax) * (by - ay) - (cy - ay) * (bx - ax), slant)
    return 0 < along < 1 and 0 < across < 1


def sight_at(at, place):
    """All other places by the angle from the least of them on."""
    others = sorted(other for other in at if other != place)
    start = angle(at[place], at[others[0]])
    return (others[0], *sorted(others[1:], key=lambda other: (angle(at[place], at[other]) - start) % math.tau))


def nets_at(at):
    """All lots of ways without crossings to which no way can be added, found among all lots of ways."""
    ways = ways_of(sorted(at))
    crossed = [sum(2 ** n for n, other in enumerate(ways) if cross_at(at, way, other)) for way in ways]
    found = []
    for lot in range(2 ** len(ways)):
        if all(bool(lot >> n & 1) == (lot & crossed[n] == 0) for n in range(len(ways))):
            found.append(tuple(way for n, way in enumerate(ways) if lot >> n & 1))
    return tuple(sorted(found))


def exchanges_at(nets, net):
    """The exchanges of one of all nets, by which other net it gives."""
    found = {}
    for other in nets:
        out = [way for way in net if way not in other]
        if len(out) == 1:
            found[out[0], [way for way in other if way not in net][0]] = other
    return found


def distances(nets):
    """The fewest exchanges between each two of all nets, by letting each net in turn be on the way."""
    many = {}
    for one, other in itertools.product(nets, repeat=2):
        many[one, other] = 0 if one == other else 1 if other in exchanges_at(nets, one).values() else 99
    for middle, one, other in itertools.product(nets, repeat=3):
        many[one, other] = min(many[one, other], many[one, middle] + many[middle, other])
    return many


def rounds_of(places):
    """All rounds of the places."""
    orders = itertools.permutations(places)
    return tuple(sorted(order for order in orders if order[0] == min(places) and order[1] < order[-1]))


def legs_of(tour):
    """The legs of a round."""
    return {tuple(sorted((tour[n - 1], tour[n]))) for n in range(len(tour))}


def crossings_at(at, tour):
    """The pairs of legs of a round that meet."""
    pairs = itertools.combinations(sorted(legs_of(tour)), 2)
    return tuple(sorted(pair for pair in pairs if cross_at(at, *pair)))


def undone_at(at, tour):
    """All rounds that have all legs of a round but two that meet."""
    found = set()
    for pair in crossings_at(at, tour):
        kept = legs_of(tour) - set(pair)
        found.update(other for other in rounds_of(sorted(at)) if other != tour and kept <= legs_of(other))
    return tuple(sorted(found))


def undoings_at(at, tour):
    """All tuples of rounds from a round on, each one behind an undone crossing of the one ahead."""
    rows = [(tour,)]
    for row in rows:
        rows.extend(row + (behind,) for behind in undone_at(at, row[-1]))
    return rows
