"""Points [12], [19], [20], [24] and the interface of leftmaps/bits.py."""

import itertools
import unittest
from unittest import mock

from leftmaps.bits import follows_by_bits, left_by, maps_in, set_of
from leftmaps.books import Book
from leftmaps.claims import at_border, holds, is_cut
from leftmaps.errors import BadClaim, BadNumber, BadPlaces
from leftmaps.maps import Map, all_maps
from leftmaps.verdicts import follows
from tests.booked import NEVER, kept, negated, possible_books, quarrels, where
from tests.case import Case
from tests.claimed import ABC, BAD_PLACES, FOUR, THREE, claims_on, nots, wide, wrong_claims
from tests.samples import WORDS, wrong_values

MANY = {3: 2, 4: 14, 5: 264}


def as_set(numbers):
    """The set in which the maps with these numbers are."""
    return sum(2 ** number for number in numbers)


class SetOfTest(Case):

    def test_every_map_at_a_time(self):
        for many in (3, 4, 5):
            places = WORDS[:many]
            maps = all_maps(places)
            for claim in claims_on(places):
                plain = as_set(number for number, chart in enumerate(maps) if holds(chart, claim))
                self.assertEqual(set_of(places, claim), plain)
                self.assertEqual(as_set(where(places, claim)), plain)
                self.assertIs(set_of(claim=claim, places=places).__class__, int)

    def test_claims_that_tell_what_looks_tell(self):
        maps = all_maps(WORDS)
        cuts = [is_cut(WORDS, WORDS[:1]), is_cut(WORDS, WORDS[1:3])]
        for claim in [at_border(WORDS, place) for place in WORDS] + cuts:
            plain = as_set(number for number, chart in enumerate(maps) if holds(chart, claim))
            self.assertEqual(set_of(WORDS, claim), plain)

    def test_all_and_none(self):
        for many, maps in MANY.items():
            self.assertEqual(set_of(WORDS[:many], ("all", ())), 2 ** maps - 1)
            self.assertEqual(set_of(WORDS[:many], NEVER), 0)
            self.assertEqual(set_of(WORDS[:many], ("not", NEVER)), 2 ** maps - 1)

    def test_written_out(self):
        self.assertEqual(set_of(THREE, ABC), 2)
        self.assertEqual(set_of(THREE, ("not", ABC)), 1)
        self.assertEqual(set_of(THREE, wide(300)), 2)
        self.assertEqual(set_of(THREE, nots(8)), 1)

    def test_bad_places_are_told_ahead(self):
        for value in wrong_values() + BAD_PLACES:
            for claim in (ABC, None, ()):
                self.assertIs(self.refused(BadPlaces, set_of, value, claim).value, value)

    def test_no_claims(self):
        for value in wrong_claims():
            self.refuses(BadClaim, value, set_of, FOUR)
        self.refuses(BadClaim, ("left", "a", "b", "d"), set_of, THREE)


class MapsInTest(Case):

    def test_each_map_by_itself(self):
        for many in (3, 4, 5):
            maps = all_maps(WORDS[:many])
            for number, chart in enumerate(maps):
                self.assertEqual(maps_in(WORDS[:many], 2 ** number), [chart])

    def test_the_maps_of_which_a_claim_holds(self):
        for many in (3, 4, 5):
            places = WORDS[:many]
            maps = all_maps(places)
            for claim in claims_on(places)[::7]:
                found = maps_in(places, set_of(places, claim))
                self.assertIs(found.__class__, list)
                self.assertEqual({chart.__class__ for chart in found} - {Map}, set())
                self.assertEqual(found, [maps[number] for number in sorted(where(places, claim))])

    def test_none_and_all(self):
        for many, maps in MANY.items():
            self.assertEqual(maps_in(WORDS[:many], 0), [])
            self.assertEqual(maps_in(number=2 ** maps - 1, places=WORDS[:many]), all_maps(WORDS[:many]))

    def test_all_sets_of_the_maps_of_three_places_and_of_four(self):
        for many in (3, 4):
            maps = all_maps(WORDS[:many])
            for number in range(0, 2 ** len(maps), 1 if many == 3 else 37):
                plain = [chart for at, chart in enumerate(maps) if number // 2 ** at % 2]
                self.assertEqual(maps_in(WORDS[:many], number), plain)

    def test_a_new_list_each_time(self):
        maps_in(FOUR, 3).clear()
        self.assertEqual(len(maps_in(FOUR, 3)), 2)

    def test_no_sets(self):
        for many, maps in MANY.items():
            wrong = [
                2 ** maps, 2 ** maps + 1, 2 ** (maps + 1) - 1, 2 ** 400, 10 ** 999, -1, -2, -2 ** maps, -10 ** 999,
                True,
                False, None, "1", "", b"1", (1,), [1], {1}, {0: 1}, (), object(), mock.ANY, range(1), int,
            ]
            for value in wrong + [value for value in wrong_values() if value.__class__ is not int]:
                self.refuses(BadNumber, value, maps_in, WORDS[:many])
        self.assertEqual(len(maps_in(WORDS, 2 ** 264 - 1)), 264)
        self.refuses(BadNumber, 4, maps_in, THREE)

    def test_bad_places_are_told_ahead(self):
        for value in wrong_values() + BAD_PLACES:
            for number in (0, 1, -1, True, None):
                self.assertIs(self.refused(BadPlaces, maps_in, value, number).value, value)


class LeftByTest(Case):

    def test_good_many_books(self):
        for many in (3, 4, 5):
            maps = all_maps(WORDS[:many])
            for places, facts in possible_books(many, 60) + quarrels(many, 20):
                book = Book(places, facts)
                found = left_by(book)
                self.assertEqual(found, as_set(kept(places, facts)))
                self.assertEqual(found, as_set(number for number, chart in enumerate(maps) if book.keeps(chart)))
                self.assertEqual(left_by(book=book), found)

    def test_of_a_book_in_quarrel_0(self):
        for many in (3, 4, 5):
            for places, facts in quarrels(many, 20):
                self.assertEqual(left_by(Book(places, facts)), 0)

    def test_of_no_facts_all(self):
        for many, maps in MANY.items():
            self.assertEqual(left_by(Book(WORDS[:many])), 2 ** maps - 1)


class FollowsByBitsTest(Case):

    def test_good_many_books_and_claims(self):
        for many in (3, 4, 5):
            for number, (places, facts) in enumerate(possible_books(many, 60)):
                book = Book(places, facts)
                for claim in claims_on(places)[number % 9::9]:
                    plain = kept(places, facts) <= where(places, claim)
                    self.assertIs(follows_by_bits(book, claim), plain)
                    self.assertIs(follows(book, claim), plain)

    def test_from_a_book_in_quarrel_all_follows(self):
        for many in (3, 4, 5):
            for places, facts in quarrels(many, 20):
                for claim in [NEVER, ("all", ()), *claims_on(places)[::41]]:
                    self.assertIs(follows_by_bits(Book(places, facts), claim), True)
                    self.assertIs(follows_by_bits(Book(places, facts), negated(claim)), True)

    def test_no_claims(self):
        for value in wrong_claims():
            self.refuses(BadClaim, value, follows_by_bits, Book(FOUR))
            self.refuses(BadClaim, value, follows_by_bits, Book(FOUR, [NEVER]))
        self.refuses(BadClaim, ("left", "a", "b", "d"), follows_by_bits, Book(THREE))

    def test_by_name(self):
        book = Book(FOUR, [("left", *turn) for turn in ("abd", "bcd", "cad")])
        self.assertIs(follows_by_bits(claim=ABC, book=book), True)
        self.assertIs(follows_by_bits(book=book, claim=("not", ABC)), False)

    def test_whatever_was_asked_in_between(self):
        books = [Book(places, facts) for places, facts in possible_books(4, 20)]
        before = [left_by(book) for book in books]
        for book, chart in itertools.product(books, all_maps(WORDS[:4])[:3]):
            self.refused(BadNumber, maps_in, chart.places, -1)
            follows_by_bits(book, NEVER)
        self.assertEqual([left_by(book) for book in books], before)


if __name__ == "__main__":
    unittest.main()
