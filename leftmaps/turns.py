"""Turns of three places in any order, and those that the rules bar."""


def in_any_order(pairs):
    """A dict from (a, b, c) in any order to a value, by a dict from threes to pairs of values.

    The first value of a pair stands for c lying to the left of a, b in the order of the three, the second one for
    the other way.
    """
    found = {}
    for a, b, c in pairs:
        so, other = pairs[a, b, c]
        for turn in ((a, b, c), (b, c, a), (c, a, b)):
            found[turn] = so
        for turn in ((b, a, c), (a, c, b), (c, b, a)):
            found[turn] = other
    return found


def told_by(known):
    """A dict from (a, b, c) in any order to whether c lies to the left of a, b, by known turns."""
    return in_any_order({three: (known[three], not known[three]) for three in known})


def barred_turns(name):
    """The turns that are not all so by the rule with this name, what it concludes being taken the other way."""
    if name[0] == "within":
        d, a, b, c = name[1:]
        return ((a, b, d), (b, c, d), (c, a, d), (b, a, c))
    t, s, p, q, r = name[1:]
    return ((t, s, p), (t, s, q), (t, s, r), (t, p, q), (t, q, r), (p, t, r))
