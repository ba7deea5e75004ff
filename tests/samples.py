"""Values and plain reckonings that the tests share; none of them uses the package's own."""

import itertools
from unittest import mock

WORDS = ("ant", "bee", "cat", "dog", "elk")

# Three kinds of five places lie in a plane: five, four or three of them are at the border.
FIVES = (
    ((0, 0), (4, -1), (6, 3), (3, 6), (-1, 4)),
    ((0, 0), (7, 0), (8, 7), (0, 6), (3, 2)),
    ((0, 0), (10, 0), (0, 10), (1, 2), (3, 1)),
)


def wrong_values():
    """Values of every kind, none of which is a place, a lot, places, turns or spots."""
    return [
        None, True, False, 0, 1, -3, 10 ** 999, "", "Ant", "an t", "ninelette", "abcdefghi", "a1", "\n", "zz",
        b"", b"ant", [], ["ant"], list(WORDS), {}, {"ant": 1}, set(), {"ant", "bee", "cat"}, frozenset(WORDS),
        object(), len, int, ValueError("ant"), range(3), iter(WORDS),
        ("",), (None,), (["ant"],), ({},), (("ant", "bee", "cat"),), ("ant", "bee", ["cat"]), ("ant", "bee", {1}),
        ("ant", "bee", None), ("ant", "bee", 3), ("ant", "bee", True), (b"ant", b"bee", b"cat"), (1, 2, 3),
        ("cat", "bee", "ant"), ("ant", "ant", "bee"), ("ant", "cat", "bee"), ("ant", "bee", "bee"),
        ("Ant", "bee", "cat"), ("ant", "bee", "cat "), nested(50), ("ant", "bee", nested(40)), ("ant",) * 20000,
    ]


def wrong_ways():
    """Values, many of them nearly so, none of which is a way of the first five letters."""
    return wrong_values() + [
        (), ("a",), ("b", "a"), ("a", "a"), ("a", "f"), ("a", "b", "c"), ["a", "b"], "ab", {"a", "b"},
        (("a", "b"), ("c", "d")), ("a", ("b",)), ("a", None), {"a": 1, "b": 2}, ("a", mock.ANY), ("a", ["b"]),
        (["a"], {}), mock.ANY,
    ]


def wrong_others():
    """Values, many of them nearly so, none of which is a lot of three or more of the first five letters beside a."""
    return wrong_values() + [
        (), ("b",), ("b", "c"), ("a", "b", "c"), ("a", "b", "c", "d"), ("a", "b", "c", "d", "e"), ("b", "d", "c"),
        ("b", "c", "c"), ("b", "c", "f"), ["b", "c", "d"], "bcd", {"b", "c", "d"}, ("b", "c", "d", "d"),
        ("b", "c", "D"), ("b", "c", mock.ANY), mock.ANY,
    ]


def wrong_lots():
    """Values, many of them nearly so, none of which is a lot of the first five letters."""
    return wrong_values() + [
        ("d", "c"), ("c", "c"), ("f",), ["c"], [], "c", "", {"c"}, {}, ("c", "D"), ("c", ("d",)), (mock.ANY,), mock.ANY,
    ]


def nested(depth):
    """A tuple in a tuple in a tuple and so on."""
    value = ()
    for _ in range(depth):
        value = (value,)
    return value


def area(a, b, c):
    """Above 0 if point c lies to the left of points a, b."""
    return (b[0] - a[0]) * (c[1] - a[1]) - (b[1] - a[1]) * (c[0] - a[0])


def turns_at(places, points):
    """The turns of places that lie at these points, as a tuple."""
    at = dict(zip(places, points))
    return tuple(area(at[a], at[b], at[c]) > 0 for a, b, c in itertools.combinations(places, 3))


def placings(many):
    """Points for that many places, in such orders that every map there is comes up."""
    found = []
    for points in FIVES:
        found.extend(itertools.permutations(points, many))
    return found


def seen_tables(places):
    """All tables of turns that some placing has, ascending."""
    return sorted({turns_at(places, points) for points in placings(len(places))})


def told(places, turns):
    """What a table tells of any three places, in any order."""
    told_of = {}
    for three, turn in zip(itertools.combinations(places, 3), turns):
        for order in itertools.permutations(three):
            swaps = sum(one > other for one, other in itertools.combinations(order, 2))
            told_of[order] = turn if swaps % 2 == 0 else not turn
    return told_of


def rule_names(places):
    """The names of the rules, found by trying all that could be one."""
    names = [("round", *order) for order in itertools.permutations(places, 5)]
    for d, a, b, c in itertools.permutations(places, 4):
        if places.index(a) < places.index(b) and places.index(a) < places.index(c):
            names.append(("within", d, a, b, c))
    return tuple(sorted(names))


def is_kept(told_of, name):
    """Whether turns keep the rule with this name."""
    if name[0] == "within":
        _, d, a, b, c = name
        if told_of[a, b, d] and told_of[b, c, d] and told_of[c, a, d]:
            return told_of[a, b, c]
        return True
    _, t, s, p, q, r = name
    if told_of[t, s, p] and told_of[t, s, q] and told_of[t, s, r] and told_of[t, p, q] and told_of[t, q, r]:
        return told_of[t, p, r]
    return True


def broken_rules(places, turns):
    """The names of all rules that a table does not keep, ascending."""
    told_of = told(places, turns)
    return [name for name in rule_names(places) if not is_kept(told_of, name)]


def all_tables(places):
    """Every table of turns, a map or not, ascending."""
    many = len(list(itertools.combinations(places, 3)))
    return list(itertools.product((False, True), repeat=many))
