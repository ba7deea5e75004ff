"""Point [19] and the interface of leftmaps/claims.py."""

import itertools
import unittest

from leftmaps.claims import at_border, holds, is_cut, lies_within, need_claim, ways_cross
from leftmaps.errors import BadClaim, BadLot, BadPlace, BadPlaces
from leftmaps.looks import border, can_cut, do_cross, is_within
from leftmaps.maps import Map, from_spots
from tests.case import Case
from tests.claimed import ABC, BAD_PLACES, FIVE, FOUR, THREE, alls, claims_on, deep_of, is_so_at, many_in, nots, wide
from tests.claimed import wrong_claims
from tests.plain import all_placed, lots_of, placed, ways_of
from tests.samples import WORDS, wrong_lots, wrong_others, wrong_values, wrong_ways


class NeedClaimTest(Case):

    def test_the_very_object_is_returned(self):
        for places in (THREE, FOUR, WORDS):
            for claim in claims_on(places):
                self.assertIs(need_claim(places, claim), claim)
                self.assertIs(need_claim(thing=claim, places=places), claim)

    def test_an_atom_in_any_order(self):
        for order in itertools.product(FOUR, repeat=3):
            if len(set(order)) == 3:
                self.assertEqual(need_claim(FOUR, ("left", *order)), ("left", *order))
            else:
                self.refuses(BadClaim, ("left", *order), need_claim, FOUR)

    def test_8_and_9_deep(self):
        for made in (nots, alls):
            for deep in range(1, 9):
                self.assertEqual(deep_of(made(deep)), deep)
                self.assertEqual(need_claim(THREE, made(deep)), made(deep))
            for deep in (9, 10, 20):
                self.refuses(BadClaim, made(deep), need_claim, THREE)

    def test_300_and_301_claims(self):
        thirty = ("all", (ABC,) * 28 + (("all", ()),))
        mixed = ("all", (thirty,) * 9 + (ABC,) * 29)
        for claim in (wide(300), ("not", wide(299)), mixed, ("some", (wide(149), wide(150)))):
            self.assertEqual(many_in(claim), 300)
            self.assertIs(need_claim(THREE, claim), claim)
        for claim in (wide(301), ("not", wide(300)), ("all", (thirty,) * 10), ("some", (wide(150), wide(150)))):
            self.assertEqual(many_in(claim), 301)
            self.refuses(BadClaim, claim, need_claim, THREE)

    def test_other_values(self):
        for value in wrong_claims():
            self.refuses(BadClaim, value, need_claim, FOUR)

    def test_bad_places_are_told_ahead(self):
        for value in wrong_values() + BAD_PLACES:
            for claim in (ABC, None, ()):
                self.assertIs(self.refused(BadPlaces, need_claim, value, claim).value, value)

    def test_a_list_that_is_passed_stays_as_it_was(self):
        value = ("all", [ABC])
        self.refuses(BadClaim, value, need_claim, FOUR)
        self.assertEqual(value, ("all", [ABC]))


class HoldsTest(Case):

    def test_every_map_against_plain_sums(self):
        for chart, at in all_placed():
            for claim in claims_on(chart.places):
                self.assertIs(holds(chart, claim), is_so_at(at, claim))

    def test_all_of_none_and_some_of_none(self):
        chart = Map(THREE, [True])
        self.assertIs(holds(chart, ("all", ())), True)
        self.assertIs(holds(chart, ("some", ())), False)
        self.assertIs(holds(claim=("not", ("some", ())), chart=chart), True)

    def test_deep_and_wide_claims(self):
        chart = Map(THREE, [True])
        self.assertEqual([holds(chart, nots(deep)) for deep in range(1, 9)], [True, False] * 4)
        self.assertEqual([holds(chart.mirrored(), nots(deep)) for deep in range(1, 9)], [False, True] * 4)
        self.assertIs(holds(chart, wide(300)), True)
        self.assertIs(holds(chart.mirrored(), wide(300)), False)

    def test_no_claims(self):
        chart = from_spots([("a", 0, 0), ("b", 4, 0), ("c", 0, 4), ("d", 1, 1)])
        for value in wrong_claims():
            self.refuses(BadClaim, value, holds, chart)
        self.refuses(BadClaim, ("left", "a", "b", "d"), holds, chart.only(THREE))


class LooksClaimsTest(Case):

    def assert_tells(self, many, claim, most, deepest, look, *values):
        """Fails if the claim is too large or does not hold of just the maps of so many places that have the look."""
        self.assertIs(need_claim(WORDS[:many], claim), claim)
        self.assertLessEqual(many_in(claim), most)
        self.assertLessEqual(deep_of(claim), deepest)
        for chart, _ in placed(many):
            self.assertIs(holds(chart, claim), look(chart, *values))

    def test_at_border(self):
        for many in (3, 4, 5):
            for place in WORDS[:many]:
                claim = at_border(WORDS[:many], place)
                self.assertEqual(at_border(place=place, places=WORDS[:many]), claim)
                self.assert_tells(many, claim, 20, 4, lambda chart, one: one in border(chart), place)

    def test_lies_within(self):
        for many in (4, 5):
            places = WORDS[:many]
            for place in places:
                for lot in lots_of([other for other in places if other != place]):
                    if len(lot) >= 3:
                        claim = lies_within(places, place, lot)
                        self.assertEqual(lies_within(lot=lot, place=place, places=places), claim)
                        self.assert_tells(many, claim, 20, 4, is_within, place, lot)

    def test_ways_cross(self):
        for many in (3, 4, 5):
            places = WORDS[:many]
            for one, other in itertools.product(ways_of(places), repeat=2):
                claim = ways_cross(places, one, other)
                self.assertEqual(ways_cross(other=other, one=one, places=places), claim)
                self.assert_tells(many, claim, 30, 6, do_cross, one, other)

    def test_is_cut(self):
        for many in (3, 4, 5):
            places = WORDS[:many]
            for lot in lots_of(places):
                claim = is_cut(places, lot)
                self.assertEqual(is_cut(lot=lot, places=places), claim)
                self.assert_tells(many, claim, 100, 8, can_cut, lot)


class LooksClaimsErrorsTest(Case):

    def test_bad_places_are_told_ahead(self):
        for value in wrong_values() + BAD_PLACES:
            for right in (True, False):
                place, lot, way = ("a", ("b", "c", "d"), ("a", "b")) if right else (None, None, None)
                self.assertIs(self.refused(BadPlaces, at_border, value, place).value, value)
                self.assertIs(self.refused(BadPlaces, lies_within, value, place, lot).value, value)
                self.assertIs(self.refused(BadPlaces, ways_cross, value, way, way).value, value)
                self.assertIs(self.refused(BadPlaces, is_cut, value, lot).value, value)

    def test_no_places(self):
        for value in [*wrong_values(), "e", "A", ("a",), ["a"]]:
            self.refuses(BadPlace, value, at_border, FOUR)
            for lot in (("b", "c", "d"), ("b", "c"), None):
                self.assertIs(self.refused(BadPlace, lies_within, FOUR, value, lot).value, value)

    def test_no_lots_of_three_or_more_others(self):
        for value in wrong_others():
            self.refuses(BadLot, value, lies_within, FIVE, "a")
        for value in lots_of(THREE):
            self.refuses(BadLot, value, lies_within, THREE, "a")

    def test_no_ways(self):
        for value in wrong_ways():
            self.assertIs(self.refused(BadLot, ways_cross, FIVE, value, ("a", "b")).value, value)
            self.refuses(BadLot, value, ways_cross, FIVE, ("a", "b"))
            self.assertEqual(self.refused(BadLot, ways_cross, FIVE, ("x", "y"), value).value, ("x", "y"))

    def test_no_lots(self):
        for value in wrong_lots():
            self.refuses(BadLot, value, is_cut, FIVE)


if __name__ == "__main__":
    unittest.main()
