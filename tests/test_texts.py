"""Points [19], [20], [26] and the interface of leftmaps/texts.py."""

import itertools
import unittest
from unittest import mock

from leftmaps.books import Book
from leftmaps.errors import BadClaim, BadPlaces, BadSpots, BadText
from leftmaps.maps import all_maps, from_spots, spots_of
from leftmaps.texts import book_text, claim_text, read_book, read_claim, read_spots, spots_text
from tests.booked import NEVER, possible_books, quarrels
from tests.case import Case
from tests.claimed import ABC, BAD_PLACES, FIVE, FOUR, THREE, alls, claims_on, nots, wide, wrong_claims
from tests.samples import WORDS, wrong_values

ODD = ("all", "left", "not", "places", "some")
HUGE = 10 ** 999
WRITTEN = [
    (ABC, "a b : c"), (("left", "c", "a", "b"), "c a : b"), (("all", ()), "all[ ]"), (NEVER, "some[ ]"),
    (("not", ("left", "b", "a", "d")), "not[ b a : d ]"), (("all", (ABC,)), "all[ a b : c ]"),
    (("some", (ABC, ("left", "a", "b", "d"))), "some[ a b : c; a b : d ]"), (("not", NEVER), "not[ some[ ] ]"),
    (("all", (("not", ABC), ("all", ()), ("some", (ABC, ("not", ("all", ())))), ABC)),
     "all[ not[ a b : c ]; all[ ]; some[ a b : c; not[ all[ ] ] ]; a b : c ]"),
    (("not", ("not", ABC)), "not[ not[ a b : c ] ]"), (("all", (NEVER, NEVER)), "all[ some[ ]; some[ ] ]"),
]
NO_TEXTS = [value for value in wrong_values() if not isinstance(value, str)] + [b"a b : c", ["a b : c"], mock.ANY, str]


def deepest():
    """Claims of the greatest depth and of the greatest number of claims in them."""
    return [nots(8), alls(8), wide(300), ("not", wide(299)), ("all", (wide(149), wide(150))),
            ("all", tuple(("not", ABC) for _ in range(149)))]


def plain_text(claim):
    """The text of a claim, by the words of the document."""
    if claim[0] == "left":
        return "{} {} : {}".format(*claim[1:])
    parts = [claim[1]] if claim[0] == "not" else claim[1]
    return " ".join([claim[0] + "[", "; ".join(map(plain_text, parts)), "]"] if parts else [claim[0] + "[", "]"])


def near_texts(text):
    """Texts with one sign put in, taken out, exchanged with the next one or another in its place."""
    found = {text + "\n", "\n" + text, text + ";", text + " ", " " + text, text + " ]", "", text + "; " + text}
    for n in range(len(text) + 1):
        found.update(text[:n] + sign + text[n:] for sign in " ;:[]\nab")
        found.add(text[:n] + text[n + 1:])
        found.update(text[:n] + sign + text[n + 1:] for sign in " ;:[]\nabA(,")
        found.add(text[:n] + text[n + 1:n + 2] + text[n:n + 1] + text[n + 2:])
    return found - {text}


class ClaimTextTest(Case):

    def test_written_out(self):
        for claim, text in WRITTEN:
            self.assertEqual(claim_text(FOUR, claim), text)
            self.assertEqual(read_claim(FOUR, text), claim)

    def test_claims_of_each_sort(self):
        for places in (THREE, FOUR, FIVE, WORDS, ODD):
            for claim in claims_on(places):
                text = claim_text(claim=claim, places=places)
                self.assertEqual(text, plain_text(claim))
                self.assertEqual(read_claim(text=text, places=places), claim)

    def test_the_deepest_and_the_widest(self):
        for claim in deepest():
            text = claim_text(THREE, claim)
            self.assertEqual(text, plain_text(claim))
            self.assertEqual(read_claim(THREE, text), claim)

    def test_bad_places_and_claims(self):
        for value in wrong_values() + BAD_PLACES:
            for claim in (ABC, None):
                self.assertIs(self.refused(BadPlaces, claim_text, value, claim).value, value)
        for value in wrong_claims():
            self.refuses(BadClaim, value, claim_text, FOUR)
        self.refuses(BadClaim, ("left", "a", "b", "d"), claim_text, THREE)


class ReadClaimTest(Case):

    def assert_bad(self, places, text):
        told = self.refused(BadText, read_claim, places, text).line
        self.assertEqual(told, 1)
        self.assertIs(told.__class__, int)

    def test_bad_places_are_told_ahead(self):
        for value in wrong_values() + BAD_PLACES:
            for text in ("a b : c", "", None, 3):
                self.assertIs(self.refused(BadPlaces, read_claim, value, text).value, value)

    def test_no_strings(self):
        for value in NO_TEXTS:
            self.assertIsNone(self.refused(BadText, read_claim, FOUR, value).line)

    def test_near_texts(self):
        for _, text in WRITTEN:
            due = {}
            for near in near_texts(text):
                try:
                    due[near] = read_claim(FOUR, near)
                except BadText as error:
                    self.assertEqual(error.line, 1)
            for near, claim in due.items():
                self.assertEqual(claim_text(FOUR, claim), near)
            # A place may be another one, or a claim may be left out, but no sign may stand otherwise.
            self.assertLess(len(due), 12)

    def test_texts_that_are_none(self):
        wrong = [
            "", " ", "\n", "a", "a b", "a b :", "a b : ", "a b :c", "a b: c", "a b c", "a b ; c", "a  b : c",
            "a b : c d",
            "a b : c : d", "a b c : d", "A b : c", "a b : e", "a a : b", "a b : a", "a b : c;", "a b : c; ",
            "; a b : c",
            "a b : c\n", "\na b : c", "a b\n: c", "a b : c; a b : d", "all", "all[", "all[]", "all[ ", "all[  ]",
            "all [ ]",
            "all[ ] ", " all[ ]", "all[ a b : c]", "all[a b : c ]", "all[ a b : c", "a b : c ]", "all[ a b : c ] ]",
            "]",
            "all[ a b : c; ]", "all[ ; a b : c ]", "all[ a b : c;a b : d ]", "all[ a b : c ; a b : d ]", "all[ ;]",
            "all[ a b : c;  a b : d ]", "all[ a b : c a b : d ]", "all[ a b : c, a b : d ]", "all( a b : c )", "ALL[ ]",
            "all{ a b : c }", "any[ a b : c ]", "left[ a b : c ]", "not[ ]", "not[ a b : c; a b : d ]", "not[a b : c ]",
            "not a b : c", "not[ not[ a b : c ]", "not[ a b : c ] ]", "some[ all[ ]; ]", "some[ all[ ] all[ ] ]", "[ ]",
            "[ a b : c ]", "left a b c", "('left', 'a', 'b', 'c')", "all[ ]all[ ]", "all[ ]; all[ ]", "all[ ] all[ ]",
            "all[ a b : c ];", "all[ all[ ];]", "all[ all[ ] ; all[ ] ]", ";", ":", " : ", ": :", "; ; ; ;", "a b : ;",
            "a b : ]", "all[ a b : ] ]", "a b : c\\n", "a\tb : c", "a b : c" * 2, "a b : c; " * 400, "all[ " * 4000,
            "not[ " * 9 + "a b : c" + " ]" * 9, "x" * 20000, " " * 20000, "] " * 9000, "all[ ] " * 2000, "not[ " * 3000,
            "all[ " * 2500 + "] " * 2500, "some[ " + "; ".join(["a b : c"] * 2000) + " ]",
        ]
        for text in wrong + [value for value in wrong_values() if isinstance(value, str)]:
            self.assert_bad(FOUR, text)

    def test_9_deep_and_301_claims(self):
        for claim in (nots(9), alls(9), wide(301), ("not", wide(300)), ("all", (wide(150), wide(150))), nots(40)):
            self.assert_bad(FOUR, plain_text(claim))
        for claim in deepest():
            self.assertEqual(read_claim(FOUR, plain_text(claim)), claim)

    def test_claims_on_other_places(self):
        self.assert_bad(THREE, "a b : d")
        self.assert_bad(THREE, "all[ a b : c; a b : d ]")
        self.assert_bad(WORDS, "a b : c")

    def test_places_named_as_the_signs_are(self):
        for text, claim in (
                ("all some : not", ("left", "all", "some", "not")),
                ("not places : left", ("left", "not", "places", "left")),
                ("all[ all not : some; some[ ] ]", ("all", (("left", "all", "not", "some"), NEVER))),
                ("not[ not all : some ]", ("not", ("left", "not", "all", "some")))):
            self.assertEqual(read_claim(ODD, text), claim)
            self.assertEqual(claim_text(ODD, claim), text)
        wrong = ["all[ all[ not : some ]", "all[ some : not", "not all : some ]", "all some[ : not", "all some : not["]
        for text in wrong:
            self.assert_bad(ODD, text)


class BookTextTest(Case):

    def test_written_out(self):
        facts = [ABC, ("not", ("left", "b", "a", "d")), ("all", ())]
        text = "places a b c d\na b : c\nnot[ b a : d ]\nall[ ]"
        self.assertEqual(book_text(Book(FOUR, facts)), text)
        self.assertEqual(read_book(text), Book(FOUR, facts))
        self.assertEqual(book_text(book=Book(THREE)), "places a b c")
        self.assertEqual(read_book(text="places a b c"), Book(THREE))

    def test_good_many_books(self):
        for many in (3, 4, 5):
            for places, facts in possible_books(many, 40) + quarrels(many, 10):
                book = Book(places, facts)
                text = book_text(book)
                self.assertEqual(text.split("\n"), ["places " + " ".join(places), *map(plain_text, facts)])
                found = read_book(text)
                self.assertIs(found.__class__, Book)
                self.assertEqual(found, book)

    def test_0_to_12_facts(self):
        for many in range(13):
            for claims in (WRITTEN, WRITTEN[::-1]):
                book = Book(FOUR, [claims[n % len(claims)][0] for n in range(many)])
                self.assertEqual(book_text(book).count("\n"), many)
                self.assertEqual(read_book(book_text(book)), book)

    def test_places_named_as_the_signs_are(self):
        book = Book(ODD, [("left", "places", "all", "not"), ("all", ())])
        self.assertEqual(book_text(book), "places all left not places some\nplaces all : not\nall[ ]")
        self.assertEqual(read_book(book_text(book)), book)

    def test_a_text_longer_than_what_can_be_passed(self):
        words = ("aaaaaaaa", "bbbbbbbb", "cccccccc")
        claim = ("some", (("left", *words),) * 299)
        book = Book(words, [claim] * 12)
        self.assertGreater(len(book_text(book)), 20000)
        self.assertEqual(read_book(book_text(book)), book)


class ReadBookTest(Case):

    def assert_bad(self, line, text):
        told = self.refused(BadText, read_book, text).line
        self.assertEqual(told, line)
        self.assertIs(told.__class__, int)

    def test_no_strings(self):
        for value in NO_TEXTS:
            self.assertIsNone(self.refused(BadText, read_book, value).line)

    def test_the_first_line(self):
        wrong = [
            "", " ", "places", "places ", "places a", "places a b", "places a b c d e f", "places b a c",
            "places a b b",
            "places a b C", "places  a b c", "places a  b c", "places a b c ", " places a b c", "Places a b c",
            "place a b c",
            "a b c", "places: a b c", "places a, b, c", "places a b c;", "placesa b c", "places a b ccccccccc",
            "places 1 2 3",
            "a b : c", "places\ta b c", "places a b c\t", "places a b c1", "x" * 20000, "places" * 3000,
            "places " * 2500,
        ]
        for text in wrong + [value for value in wrong_values() if isinstance(value, str)]:
            self.assert_bad(1, text)
            self.assert_bad(1, text + "\na b : c")
            self.assert_bad(1, text + "\nx" * 14)
        self.assert_bad(1, "\nplaces a b c")
        self.assertEqual(read_book("places places placesa placesb"), Book(("places", "placesa", "placesb")))

    def test_a_line_that_is_no_claim(self):
        lines = ["places a b c d", *[text for _, text in WRITTEN[:11]]]
        for wrong in ("", " ", "a b : e", "a b : c ", "all[ ", "x", "places a b c d", "a b : c;", plain_text(nots(9))):
            for at in range(1, 12):
                self.assert_bad(at + 1, "\n".join(lines[:at] + [wrong] + lines[at:]))
                self.assert_bad(at + 1, "\n".join(lines[:at] + [wrong] + lines[at + 1:]))
                self.assert_bad(at + 1, "\n".join(lines[:at] + [wrong, wrong]))

    def test_a_line_feed_at_the_end(self):
        for many in range(13):
            text = "\n".join(["places a b c"] + ["a b : c"] * many)
            self.assertEqual(len(read_book(text)), many)
            self.assert_bad(many + 2, text + "\n")
            self.assert_bad(many + 2, text + "\n\n")

    def test_13_lines_and_14(self):
        for claim in ("a b : c", "all[ ]"):
            text = "\n".join(["places a b c"] + [claim] * 12)
            self.assertEqual(len(read_book(text)), 12)
            for further in (claim, "", "x", "places a b c", claim + "\n" + claim):
                self.assert_bad(14, text + "\n" + further)
            self.assert_bad(5, "\n".join(["places a b c"] + [claim] * 3 + ["x"] + [claim] * 9))

    def test_lines_left_out_doubled_and_exchanged(self):
        facts = [claim for claim, _ in WRITTEN]
        lines = book_text(Book(FOUR, facts)).split("\n")
        for n in range(1, len(lines)):
            self.assertEqual(read_book("\n".join(lines[:n] + lines[n + 1:])), Book(FOUR, facts[:n - 1] + facts[n:]))
            doubled = read_book("\n".join(lines[:n + 1] + lines[n:]))
            self.assertEqual(doubled, Book(FOUR, facts[:n] + facts[n - 1:]))
            other = [lines[0], lines[n], *lines[1:n], *lines[n + 1:]]
            self.assertEqual(read_book("\n".join(other)).facts[0], facts[n - 1])
            self.assert_bad(1, "\n".join([lines[n], lines[0], *lines[1:n], *lines[n + 1:]]))
        self.assert_bad(1, "\n".join(lines[1:]))
        self.assert_bad(2, "\n".join(lines[:1] + lines))


class SpotsTextTest(Case):

    def test_written_out(self):
        spots = (("a", 0, -1), ("b", 40, 0), ("cc", -7, 1200))
        self.assertEqual(spots_text(spots), "a 0 -1\nb 40 0\ncc -7 1200")
        self.assertEqual(spots_text(spots=spots), "a 0 -1\nb 40 0\ncc -7 1200")
        self.assertEqual(read_spots("a 0 -1\nb 40 0\ncc -7 1200"), spots)

    def test_spots_of_maps(self):
        for many in (3, 4, 5):
            for chart in all_maps(WORDS[:many])[::5]:
                spots = spots_of(chart)
                found = read_spots(text=spots_text(spots))
                self.assertEqual(found, spots)
                self.assertIs(found.__class__, tuple)
                self.assertEqual({spot.__class__ for spot in found}, {tuple})
                self.assertEqual({number.__class__ for spot in found for number in spot[1:]}, {int})
                self.assertEqual(from_spots(found), chart)

    def test_places_named_as_the_signs_are(self):
        spots = tuple((place, n, n * n) for n, place in enumerate(ODD))
        self.assertEqual(read_spots(spots_text(spots)), spots)

    def test_numbers_of_many_digits(self):
        for great in (10 ** 899, 10 ** 900 - 1, 10 ** 900, HUGE, 10 * HUGE - 1):
            for low, high in ((great, -great), (-great, great)):
                spots = (("a", 0, 0), ("b", low, 1), ("c", 1, high))
                self.assertEqual(read_spots(spots_text(spots)), spots)
                self.assertEqual(spots_text(spots), f"a 0 0\nb {low} 1\nc 1 {high}")


class ReadSpotsTest(Case):

    lines = ["a 0 0", "b 4 0", "c 0 4", "d 1 1", "e 9 2"]

    def assert_bad(self, line, text):
        told = self.refused(BadText, read_spots, text).line
        self.assertEqual(told, line)
        self.assertIs(told.__class__, int)

    def test_no_strings(self):
        for value in NO_TEXTS:
            self.assertIsNone(self.refused(BadText, read_spots, value).line)

    def test_three_to_five_lines(self):
        for many in (3, 4, 5):
            self.assertEqual(len(read_spots("\n".join(self.lines[:many]))), many)
        self.assert_bad(2, "a 0 0")
        self.assert_bad(3, "a 0 0\nb 4 0")
        self.assert_bad(1, "")
        for further in ("f 5 8", "", "x", "a 0 0"):
            self.assert_bad(6, "\n".join([*self.lines, further]))
            self.assert_bad(6, "\n".join([*self.lines, further, "x"]))

    def test_a_line_feed_at_the_end(self):
        for many in range(1, 6):
            self.assert_bad(many + 1, "\n".join(self.lines[:many]) + "\n")

    def test_lines_of_another_form(self):
        wrong = [
            "", " ", "{}", "{} 1", "{} 1 ", "{}  1 1", "{} 1  1", " {} 1 1", "{} 1 1 ", "{} 1 1 1", "{} 1,1",
            "{}: 1 1", "1 1 {}",
            "{} 1 1;", "{} x 1", "{} 1 x", "{} 1.0 1", "{} 1 1e3", "{} 0x1 1", "{} 1 1_0", "{} -0 1", "{} 1 -0",
            "{} 007 1",
            "{} 1 007", "{} +1 1", "{} 1 +1", "{} -01 1", "{} 1 00", "{} - 1", "{} 1 -", "{} --1 1", "{} 1- 1",
            "{} 1 1-1",
            "{}1 1 1", "{}A 1 1", "{}bcdefghi 1 1", "{} True 1", "{} 1 None", "{} 1 " + "1" * 1001,
            "{} " + "1" * 1001 + " 1",
            "{} -" + "1" * 1001 + " 1", "{} 1 -" + "9" * 1001, "{} 1\t1", "('{}', 1, 1)", "{} +0 1", "{} 01 1",
            "{} 1 -007",
            "{} (1) 1", "{} 1 0" + "1" * 900, "{} ' 1", "{} 1 /", "{} 1 :", "{} : 1", "{} 1/ 1",
        ]
        for form in wrong:
            for at in range(5):
                line = form.format("abcde"[at])
                self.assert_bad(at + 1, "\n".join(self.lines[:at] + [line] + self.lines[at + 1:]))
                self.assert_bad(at + 1, "\n".join(self.lines[:at] + [line]))
                self.assert_bad(at + 1, "\n".join(self.lines[:at] + [line, line]))

    def test_numbers_of_1000_digits_and_one_more(self):
        for digits in (900, 999, 1000):
            text = f"a 0 0\nb {'9' * digits} 1\nc 1 -{'8' * digits}"
            self.assertEqual(read_spots(text)[1][1], 10 ** digits - 1)
            self.assertEqual(read_spots(text)[2][2], -8 * (10 ** digits // 9))
        self.assert_bad(2, f"a 0 0\nb {'9' * 1001} 1\nc 1 {'8' * 1000}")
        self.assert_bad(3, f"a 0 0\nb {'9' * 1000} 1\nc 1 -{'8' * 1001}")

    def test_numbers_below_0_and_0(self):
        self.assertEqual(read_spots("a 0 0\nb -4 0\nc 0 -10"), (("a", 0, 0), ("b", -4, 0), ("c", 0, -10)))

    def test_places_that_do_not_ascend(self):
        for lines, line in (("bac", 2), ("aab", 2), ("abb", 3), ("acb", 3), ("abca", 4), ("abdc", 4), ("abced", 5),
                            ("abcdd", 5)):
            self.assert_bad(line, "\n".join(f"{place} {n} {n * n}" for n, place in enumerate(lines)))
        self.assertEqual(len(read_spots("a 0 0\nab 1 1\nb 2 4")), 3)
        self.assert_bad(2, "ab 0 0\na 1 1\nb 2 4")

    def test_three_on_one_line(self):
        for text, three in (
                ("a 0 0\nb 1 1\nc 2 2", ("a", "b", "c")), ("a 0 0\nb 1 0\nc 0 1\nd -1 2", ("b", "c", "d")),
                ("a 0 0\nb 1 0\nc 0 1\nd 0 5\ne 0 7", ("a", "c", "d")), ("a 1 1\nb 1 1\nc 0 4", ("a", "b", "c")),
                (f"a 0 0\nb {HUGE} {HUGE}\nc -{HUGE} -{HUGE}", ("a", "b", "c"))):
            self.assertEqual(self.refused(BadSpots, read_spots, text).place, three)

    def test_a_line_is_told_ahead_of_three_on_one_line(self):
        self.assert_bad(4, "a 0 0\nb 1 1\nc 2 2\nd 1")
        self.assert_bad(4, "a 0 0\nb 1 1\nc 2 2\nc 1 5")
        self.assert_bad(4, "a 0 0\nb 1 1\nc 2 2\n")
        self.assert_bad(6, "a 0 0\nb 1 1\nc 2 2\nd 3 3\ne 4 4\nf 5 5")

    def test_lines_in_any_order_but_the_right_one(self):
        for order in itertools.permutations(self.lines[:4]):
            text = "\n".join(order)
            if list(order) == self.lines[:4]:
                self.assertEqual(len(read_spots(text)), 4)
            else:
                first = next(n for n in range(1, 4) if order[n] < order[n - 1])
                self.assert_bad(first + 1, text)


if __name__ == "__main__":
    unittest.main()
