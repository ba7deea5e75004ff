"""Claims of all sorts, things that are none, and plain reckonings with them; none of these uses the package's own."""

import itertools
from unittest import mock

from tests.samples import area, nested, wrong_values

THREE = ("a", "b", "c")
FOUR = ("a", "b", "c", "d")
FIVE = ("a", "b", "c", "d", "e")
ABC = ("left", "a", "b", "c")
BAD_PLACES = [("a", "b"), (*FIVE, "f"), ("b", "a", "c"), ("a", "b", "b"), list(FIVE), "abc", ("a", "b", "C")]


def nots(deep):
    """A claim of that depth, an atom within one not within another."""
    claim = ABC
    for _ in range(deep - 1):
        claim = ("not", claim)
    return claim


def alls(deep):
    """A claim of that depth, the deepest one without claims."""
    claim = ("some", ())
    for _ in range(deep - 1):
        claim = ("all", (ABC, claim, ("all", ())))
    return claim


def deep_of(claim):
    """How deep a claim is."""
    if claim[0] == "left":
        return 1
    parts = [claim[1]] if claim[0] == "not" else claim[1]
    return 1 + max(map(deep_of, parts), default=0)


def many_in(claim):
    """How many claims are in a claim, itself counted."""
    if claim[0] == "left":
        return 1
    return 1 + sum(map(many_in, [claim[1]] if claim[0] == "not" else claim[1]))


def is_so_at(at, claim):
    """Whether a claim is so at the points of the places."""
    if claim[0] == "left":
        return area(*[at[place] for place in claim[1:]]) > 0
    if claim[0] == "not":
        return not is_so_at(at, claim[1])
    told = {is_so_at(at, part) for part in claim[1]}
    return False not in told if claim[0] == "all" else True in told


def claims_on(places):
    """Claims of each sort and of several depths."""
    atoms = [("left", *order) for order in itertools.permutations(places, 3)]
    found = [*atoms, ("all", ()), ("some", ()), ("not", ("all", ())), ("all", tuple(atoms)), ("some", tuple(atoms))]
    for n, atom in enumerate(atoms[::3]):
        other, third = atoms[n * 5 % len(atoms)], atoms[n * 7 % len(atoms)]
        found += [("not", atom), ("all", (atom,)), ("some", (atom,)), ("all", (atom, other)), ("some", (atom, other))]
        found += [("not", ("some", (("all", (atom, ("not", other))), third)))]
        found += [("all", (("some", (atom, other, third)), ("not", ("all", (other, third))), ("some", (third, third))))]
        found += [("some", (("all", ()), atom)), ("all", (atom, ("some", ())))]
    return found


def wrong_claims():
    """Values that are no claim on the first four letters."""
    atoms = [
        ("left",), ("left", "a"), ("left", "a", "b"), ("left", "a", "b", "c", "d"), ("left", "a", "b", "a"),
        ("left", "a", "a", "b"), ("left", "b", "a", "a"), ("left", "a", "a", "a"), ("left", "a", "b", "e"),
        ("left", "a", "b", "C"), ("left", "a", "b", ""), ("left", "a", "b", None), ("left", "a", "b", ["c"]),
        ("left", "a", "b", ("c",)), ("left", ("a", "b", "c")), ("left", ["a", "b", "c"]), ["left", "a", "b", "c"],
        ("left", "a", "b", True), ("left", "a", "b", 3), ("left", "a", {"b"}, "c"), ("left", {}, "b", "c"),
        ("Left", "a", "b", "c"), ("right", "a", "b", "c"), ("all", "a", "b", "c"), ("not", "a", "b", "c"),
        (None, "a", "b", "c"), (True, "a", "b", "c"), (["left"], "a", "b", "c"), ("a", "b", "c"), "left",
        (("left",), "a", "b", "c"), ("", "a", "b", "c"), (b"left", "a", "b", "c"), ("left", b"a", b"b", b"c"),
        ("left ", "a", "b", "c"), ("left", "abc"), ("le", "a", "b", "c"),
    ]
    lists = [
        ("all",), ("some",), ("all", (), ()), ("some", (ABC,), (ABC,)), ("all", []), ("some", [ABC]), ("all", {}),
        ("all", None), ("some", "left"), ("all", ""), ("all", ABC), ("some", ABC), ("all", ABC, ABC), ["all", ()],
        ["some", (ABC,)], ("All", ()), ("every", ()), ("", ()), (None, ()), (True, ()), (1, ()), (("all",), ()),
        ("all", {ABC}), ("all", {ABC: 1}), ("some", ((),)), ("all", (None,)), ("all", (ABC, "left")), ("any", (ABC,)),
        ("all", (ABC, list(ABC))), ("some", (list(ABC),)), ("all", (ABC, ("left", "a", "b", "e"))), (b"all", ()),
        ("all", (ABC,), None), ("al", ()), ("l", ()), (["all"], ()), ({}, ()), ("left", ()), ("left", (ABC,)),
    ]
    negatives = [
        ("not",), ("not", ABC, ABC), ("not", ()), ("not", (ABC,)), ("not", [ABC]), ("not", list(ABC)), ["not", ABC],
        ("not", None), ("not", True), ("not", "left"), ("Not", ABC), ("no", ABC), ("", ABC), (None, ABC),
        (["not"], ABC), (("not",), ABC), ("not", ("not",)), ("not", ("not", ("left", "a", "b", "e"))),
        ("not", ("all",)), (b"not", ABC),
    ]
    deep = [nots(9), nots(10), nots(40), alls(9), alls(20), ("all", (ABC, nots(8))), ("not", alls(8)), nested(45)]
    many = [("all", (ABC,) * 300), ("some", (("all", (ABC,) * 99),) * 3), ("all", (ABC,) * 3500), ("not", wide(300))]
    any_word = [(mock.ANY, "a", "b", "c"), (mock.ANY, ()), (mock.ANY, ABC), ("left", mock.ANY, "b", "c"), mock.ANY]
    values = atoms + lists + negatives + any_word
    within = [("not", value) for value in values] + [("some", (ABC, ("all", (value,)))) for value in values]
    return values + within + deep + many + [(), ((),), (ABC,), (ABC, ABC)] + wrong_values()


def wide(many):
    """A claim with so many claims in it, itself counted."""
    return ("some", (ABC,) * (many - 1))
