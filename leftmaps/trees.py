"""Known turns that are closed, claims judged at them, and trees of cases."""

from leftmaps.claims import need_claim
from leftmaps.closing import Closing
from leftmaps.places import is_three, need_places
from leftmaps.turns import told_by

MOST_ENDS = 2000
MOST_CASES = 99

# A tree that shows what never holds is a quarrel.
NEVER = ("some", ())


def closed(places, known):
    """The known turns closed, None if they get empty."""
    need_places(places)
    closing = Closing(places)
    bits = closing.closed_bits(closing.bits_of(known))
    return None if bits is None else closing.known_by(bits)


def judged(known, claim):
    """Whether the claim is true or false at the known turns, None if it is open."""
    return judged_at(told_by(known), claim)


def judged_at(told, claim):
    """Whether the claim is true or false by what is told of turns in any order, None if it is open."""
    if claim[0] == "left":
        return told.get(claim[1:])
    if claim[0] == "not":
        part = judged_at(told, claim[1])
        return None if part is None else not part
    parts = [judged_at(told, part) for part in claim[1]]
    # One claim that is false settles "all", one that is true settles "some".
    settling = claim[0] == "some"
    if settling in parts:
        return settling
    return None if None in parts else not settling


def is_closed_at(told, facts, claim):
    """Whether an end that is not empty is closed for the claim of a book with these facts."""
    return judged_at(told, claim) is True or False in [judged_at(told, fact) for fact in facts]


def is_end(thing):
    """Whether any value is an end of a tree."""
    return isinstance(thing, tuple) and len(thing) == 0


def is_case(places, thing):
    """Whether any value is a triple that begins with a three of the places."""
    return isinstance(thing, tuple) and len(thing) == 3 and is_three(places, thing[0])


def is_quarrel(book, thing):
    """Whether any value is a tree that is a quarrel."""
    return closes_all(book, NEVER, thing)


def shows(book, claim, thing):
    """Whether any value is a tree that shows the claim."""
    need_claim(book.places, claim)
    return closes_all(book, claim, thing)


def closes_all(book, claim, tree):
    """Whether any value is a tree of which all ends are closed for the claim of the book."""
    closing = Closing(book.places)
    # Empty known turns close an end; ends with equal known turns are judged once.
    is_closed = {None: True}
    ends = 0
    waiting = [(tree, closing.closed_bits(0), 0)]
    while waiting:
        thing, bits, cases = waiting.pop()
        if is_end(thing):
            ends += 1
            if bits not in is_closed:
                is_closed[bits] = is_closed_at(told_by(closing.known_by(bits)), book.facts, claim)
            if ends > MOST_ENDS or not is_closed[bits]:
                return False
        elif cases < MOST_CASES and is_case(book.places, thing):
            for part, turn in zip(thing[1:], (True, False)):
                waiting.append((part, closing.with_turn(bits, thing[0], turn), cases + 1))
        else:
            return False
    return True
