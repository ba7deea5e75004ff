"""Whether a book is possible and what follows from it, with papers that anybody can check."""

from leftmaps.claims import is_so, is_word_of, need_claim
from leftmaps.closing import Closing
from leftmaps.errors import BadPaper, BadSpots, Quarrel
from leftmaps.maps import Map, from_spots, spots_of
from leftmaps.trees import NEVER, is_closed_at, judged_at, shows
from leftmaps.turns import told_by


def searched(closing, book, claim, bits):
    """What settles the claim, of a book, below known turns that have these bits.

    It is ("tree", tree) with a tree of which all ends are closed for the claim, or ("spots", spots) with spots of a
    map with these turns that keeps the book and of which the claim does not hold.
    """
    if bits is None:
        return ("tree", ())
    told = told_by(closing.known_by(bits))
    if is_closed_at(told, book.facts, claim):
        return ("tree", ())
    three = asked_for(closing, told, book.facts + (claim,))
    if three is None:
        return ("spots", spots_of(Map(book.places, [told[lot] for lot in closing.lots])))
    trees = []
    for turn in (True, False):
        word, found = searched(closing, book, claim, closing.with_turn(bits, three, turn))
        if word == "spots":
            return (word, found)
        trees.append(found)
    return ("tree", (three, trees[0], trees[1]))


def asked_for(closing, told, claims):
    """An open three, one that the first open claim asks for if there is one, None if all threes are known."""
    for claim in claims:
        if judged_at(told, claim) is None:
            return tuple(sorted(open_atom(told, claim)[1:]))
    for three in closing.lots:
        if three not in told:
            return three
    return None


def open_atom(told, claim):
    """The first open atom that is in open claims alone, in a claim that is open."""
    while claim[0] != "left":
        parts = claim[1:] if claim[0] == "not" else claim[1]
        claim = [part for part in parts if judged_at(told, part) is None][0]
    return claim


def possible(book):
    """("spots", spots) of a map that keeps the book, or ("quarrel", tree)."""
    word, found = searched(Closing(book.places), book, NEVER, 0)
    return (word, found) if word == "spots" else ("quarrel", found)


def need_possible(book):
    """The book itself, which is possible."""
    word, found = possible(book)
    if word == "quarrel":
        raise Quarrel(found)
    return book


def verdict(book, claim):
    """A paper on the claim."""
    need_claim(book.places, claim)
    need_possible(book)
    return searched(Closing(book.places), book, claim, 0)


def follows(book, claim):
    """Whether the claim follows from the book."""
    return verdict(book, claim)[0] == "tree"


def check(book, claim, paper):
    """The first word of a paper that holds."""
    need_claim(book.places, claim)
    need_possible(book)
    if not isinstance(paper, tuple) or len(paper) != 2 or not is_word_of(paper[0], ("tree", "spots")):
        raise BadPaper("form")
    word, thing = paper
    if word == "tree" and not shows(book, claim, thing):
        raise BadPaper("tree")
    if word == "spots" and not is_against(book, claim, thing):
        raise BadPaper("spots")
    return word


def is_against(book, claim, thing):
    """Whether any value is spots of a map that keeps the book and of which the claim does not hold."""
    chart = map_of(thing)
    # What is no map keeps no book.
    return book.keeps(chart) and not is_so(chart, claim)


def map_of(thing):
    """The map of any value that is spots, None if it is not."""
    try:
        chart = from_spots(thing)
    except BadSpots:
        return None
    # from_spots takes them as a list and in any order, too.
    return chart if isinstance(thing, tuple) and tuple([spot[0] for spot in thing]) == chart.places else None
