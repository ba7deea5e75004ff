"""Books, known turns and trees for the tests, and plain reckonings with them; none of these uses the package's own.

A book is told here by its places and a tuple of its facts.
"""

import functools
import itertools
import random

from tests.claimed import claims_on
from tests.samples import WORDS, rule_names, seen_tables, told

NEVER = ("some", ())
NO_MAPS = frozenset()


@functools.cache
def told_maps(places):
    """What each map of the places tells of any three of them, the maps ascending by their turns."""
    return [told(places, turns) for turns in seen_tables(places)]


def is_so(told_of, claim):
    """Whether a claim is so by what is told of any three places."""
    if claim[0] == "left":
        return told_of[claim[1:]]
    if claim[0] == "not":
        return not is_so(told_of, claim[1])
    parts = [is_so(told_of, part) for part in claim[1]]
    return False not in parts if claim[0] == "all" else True in parts


@functools.cache
def where(places, claim):
    """The numbers of the maps of which a claim is so."""
    return frozenset(number for number, told_of in enumerate(told_maps(places)) if is_so(told_of, claim))


def kept(places, facts):
    """The numbers of the maps of which all facts are so."""
    return frozenset(range(len(told_maps(places)))).intersection(*[where(places, fact) for fact in facts])


def negated(claim):
    """The claim that is so exactly if a claim is not."""
    return claim[1] if claim[0] == "not" else ("not", claim)


@functools.cache
def possible_books(many, how_many):
    """Some books of that many places that some map keeps, of 0 to 12 facts, as pairs of places and facts."""
    chance = random.Random(many)
    places = WORDS[:many]
    claims = claims_on(places)
    atoms = [claim for claim in claims if claim[0] == "left"]
    found = [(places, ()), (places, (("all", ()),)), (places, (("not", NEVER), atoms[0], atoms[0]))]
    while len(found) < how_many:
        told_of = chance.choice(told_maps(places))
        chosen = [chance.choice(chance.choice((atoms, claims))) for _ in range(len(found) % 13)]
        found.append((places, tuple(claim if is_so(told_of, claim) else negated(claim) for claim in chosen)))
    return found


@functools.cache
def quarrels(many, how_many):
    """Some books of that many places that no map keeps, as pairs of places and facts."""
    places = WORDS[:many]
    a, b, c = places[:3]
    found = [
        (places, (NEVER,)), (places, (("left", a, b, c), ("left", b, a, c))),
        (places, (("not", ("left", a, b, c)), ("left", c, a, b))), (places, (("all", (("all", ()), NEVER)),)),
        (places, (("not", ("some", (("left", a, b, c), ("left", a, c, b)))),)),
    ]
    for name in rule_names(places)[::7]:
        premises, conclusion = turns_of(name)
        found.append((places, (*[("left", *turn) for turn in premises], negated(("left", *conclusion)))))
    for at, facts in possible_books(many, how_many):
        claims = [claim for claim in claims_on(at) if kept(at, facts) <= where(at, claim)]
        if len(facts) < 12 and claims:
            found.append((at, (*facts, negated(claims[len(facts) * 7 % len(claims)]))))
    return found


def turns_of(name):
    """The turns that a rule asks for, and the one that it concludes."""
    if name[0] == "within":
        _, d, a, b, c = name
        return [(a, b, d), (b, c, d), (c, a, d)], (a, b, c)
    _, t, s, p, q, r = name
    return [(t, s, p), (t, s, q), (t, s, r), (t, p, q), (t, q, r)], (t, p, r)


def in_any_order(known):
    """What known turns tell of their threes in any order."""
    told_of = {}
    for three, turn in known.items():
        told_of.update(told(three, (turn,)))
    return told_of


def with_further(known, turn, so):
    """The known turns with one more, told in any order of its places."""
    three = tuple(sorted(turn))
    return {**known, three: so == told(three, (True,))[turn]}


def closed_by(names, known):
    """Known turns closed by the rules with these names, in this order; None if they get empty."""
    for name in names:
        premises, conclusion = turns_of(name)
        told_of = in_any_order(known)
        barred = [(turn, True) for turn in premises] + [(conclusion, False)]
        others = [(turn, so) for turn, so in barred if told_of.get(turn) is not so]
        if not others:
            return None
        if len(others) == 1 and others[0][0] not in told_of:
            turn, so = others[0]
            return closed_by(names, with_further(known, turn, not so))
    return dict(known)


@functools.cache
def closed_once(places, known):
    """Known turns, as a tuple of pairs of threes and turns, closed."""
    return closed_by(rule_names(places), dict(known))


def judge(told_of, claim):
    """True, False or None (open) by [22]."""
    if claim[0] == "left":
        return told_of.get(claim[1:])
    if claim[0] == "not":
        return {True: False, False: True, None: None}[judge(told_of, claim[1])]
    parts = {judge(told_of, part) for part in claim[1]}
    if claim[0] == "all":
        return False if False in parts else True if parts <= {True} else None
    return True if True in parts else False if parts <= {False} else None


def ends_of(places, tree, known=()):
    """The known turns at each end of a tree, as a tuple of pairs of threes and turns, None if they are empty."""
    if tree == ():
        return [known]
    three, *trees = tree
    found = []
    for turn, part in zip((True, False), trees):
        below = None
        if known is not None and dict(known).get(three, turn) is turn:
            more = closed_once(places, tuple(sorted({**dict(known), three: turn}.items())))
            below = None if more is None else tuple(sorted(more.items()))
        found.extend(ends_of(places, part, below))
    return found


def is_shown(places, facts, claim, tree):
    """Whether all ends of what is a tree by its form are closed for a claim of a book."""
    for known in ends_of(places, tree):
        if known is not None:
            told_of = in_any_order(dict(known))
            if judge(told_of, claim) is not True and False not in [judge(told_of, fact) for fact in facts]:
                return False
    return True


def has_form(places, tree):
    """Whether any value has the form of a tree with few enough ends and cases."""
    if not isinstance(tree, tuple):
        return False
    if tree == ():
        return True
    return len(tree) == 3 and tree[0] in itertools.combinations(places, 3) and all(
        has_form(places, part) for part in tree[1:])


def ends_in(tree):
    """How many ends a tree has."""
    return 1 if tree == () else ends_in(tree[1]) + ends_in(tree[2])


def cases_in(tree):
    """How many cases of a tree are one within another."""
    return 0 if tree == () else 1 + max(cases_in(tree[1]), cases_in(tree[2]))


def tree_with(three, ends):
    """A tree with so many ends, always of the same three, with few cases one within another."""
    if ends == 1:
        return ()
    return (three, tree_with(three, ends // 2), tree_with(three, ends - ends // 2))


def chain_of(three, cases):
    """A tree with so many cases one within another, always of the same three, by turns in its first and second tree."""
    tree = ()
    for number in range(cases):
        tree = (three, tree, ()) if number & 1 else (three, (), tree)
    return tree


def full_tree(lots):
    """The tree that asks for all of these threes in their order."""
    if not lots:
        return ()
    part = full_tree(lots[1:])
    return (lots[0], part, part)


@functools.cache
def random_trees(many, how_many):
    """Some trees of cases of that many places, up to 7 deep."""
    chance = random.Random(many)
    lots = list(itertools.combinations(WORDS[:many], 3))

    def grown(deep):
        if deep == 0 or chance.random() < 0.2:
            return ()
        return (chance.choice(lots), grown(deep - 1), grown(deep - 1))

    return [grown(number % 7) for number in range(how_many)]
