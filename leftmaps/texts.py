"""Claims, books and spots as texts."""

from leftmaps.books import MOST_FACTS, Book
from leftmaps.claims import is_claim, need_claim
from leftmaps.errors import BadText
from leftmaps.maps import from_spots
from leftmaps.places import LEAST_PLACES, MOST_PLACES, are_places, is_word, need_places

MOST_DIGITS = 1000


def need_text(thing):
    """The value itself, which is a text."""
    if not isinstance(thing, str):
        raise BadText(None)
    return thing


def claim_text(places, claim):
    """The text of the claim."""
    return text_of(need_claim(places, claim))


def text_of(claim):
    """The text of what is known to be a claim."""
    if claim[0] == "left":
        return f"{claim[1]} {claim[2]} : {claim[3]}"
    parts = claim[1:] if claim[0] == "not" else claim[1]
    inner = "; ".join([text_of(part) for part in parts])
    return f"{claim[0]}[ {inner} ]" if parts else f"{claim[0]}[ ]"


def read_claim(places, text):
    """The claim on the places that has the text."""
    need_places(places)
    need_text(text)
    claim = claim_of(places, text)
    if claim is None:
        raise BadText(1)
    return claim


def claim_of(places, text):
    """The claim on the places that has the text, None if there is none."""
    found = written_in(text)
    # Reading lets signs by that are too many or too few: the text that is due tells.
    if len(found) != 1 or not is_claim(places, found[0]) or text_of(found[0]) != text:
        return None
    return found[0]


def written_in(text):
    """The claims that are written in a text, whatever signs stand between them; things that are none among them."""
    opened = [("", [])]
    atom = []
    for mark in text.replace(";", " ;").split(" "):
        if mark in ("all[", "some[", "not["):
            opened.append((mark[:-1], []))
        elif mark == "]" and len(opened) > 1:
            word, parts = opened.pop()
            opened[-1][1].append(("not", *parts) if word == "not" else (word, tuple(parts)))
        elif mark != ";":
            atom.append(mark)
            if len(atom) == 4:
                opened[-1][1].append(("left", atom[0], atom[1], atom[3]))
                atom = []
    return opened[0][1]


def book_text(book):
    """The text of the book."""
    head = " ".join(("places",) + book.places)
    return "\n".join([head] + [text_of(fact) for fact in book.facts])


def read_book(text):
    """The book that has the text."""
    head, *lines = need_text(text).split("\n")
    word, *names = head.split(" ")
    places = tuple(names)
    if word != "places" or not are_places(places):
        raise BadText(1)
    facts = []
    for number, line in enumerate(lines, start=2):
        fact = claim_of(places, line)
        if fact is None or len(facts) == MOST_FACTS:
            raise BadText(number)
        facts.append(fact)
    return Book(places, facts)


def spots_text(spots):
    """The text of the spots."""
    return "\n".join([f"{place} {x} {y}" for place, x, y in spots])


def read_spots(text):
    """The spots that have the text."""
    spots = []
    for number, line in enumerate(need_text(text).split("\n"), start=1):
        parts = line.split(" ")
        if len(spots) == MOST_PLACES or not is_spot_line(parts) or (spots and parts[0] <= spots[-1][0]):
            raise BadText(number)
        spots.append((parts[0], int(parts[1]), int(parts[2])))
    if len(spots) < LEAST_PLACES:
        raise BadText(len(spots) + 1)
    # Spots of which three lie on one line are refused here.
    from_spots(spots)
    return tuple(spots)


def is_spot_line(parts):
    """Whether the parts of a line are those of a spot."""
    return len(parts) == 3 and is_word(parts[0]) and is_integer_text(parts[1]) and is_integer_text(parts[2])


def is_integer_text(text):
    """Whether an integer of at most 1,000 digits is written so, without a needless 0 or sign."""
    digits = text.removeprefix("-")
    if not 1 <= len(digits) <= MOST_DIGITS or not all(["0" <= digit <= "9" for digit in digits]):
        return False
    return digits[0] != "0" or text == "0"
