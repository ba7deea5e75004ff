"""Points [13] to [16] and the interface of leftmaps/looks.py."""

import itertools
import unittest
from unittest import mock

from leftmaps.errors import BadLot, BadPlace
from leftmaps.looks import border, can_cut, do_cross, is_within, layers, meeting, sight
from leftmaps.maps import Map, all_maps, from_spots, spots_of
from tests.case import Case
from tests.plain import all_placed, border_at, cross_at, cuts_at, layers_at, lots_of, placed, sight_at, ways_of
from tests.plain import within_at
from tests.samples import WORDS, wrong_lots, wrong_others, wrong_values, wrong_ways

VIEW = from_spots([("a", 0, 0), ("b", 4, 0), ("c", 0, 4), ("d", 1, 1)])
FIVE = ("a", "b", "c", "d", "e")
FIVE_VIEW = from_spots([("a", 1, 2), ("b", 0, 6), ("c", 0, 0), ("d", 7, 7), ("e", 6, 0)])


class PlacedTest(Case):

    def test_every_map_is_held_against_plain_sums(self):
        self.assertEqual([chart for chart, _ in placed(3)], all_maps(WORDS[:3]))
        self.assertEqual([chart for chart, _ in placed(4)], all_maps(WORDS[:4]))
        self.assertEqual([chart for chart, _ in placed(5)], all_maps(WORDS))


class BorderTest(Case):

    def test_every_map(self):
        for chart, at in all_placed():
            self.assertEqual(border(chart), border_at(at))
            self.assertEqual(border(chart=chart), border_at(at))

    def test_at_the_spots_of_the_map(self):
        for chart, _ in all_placed():
            at = {place: (x, y) for place, x, y in spots_of(chart)}
            self.assertEqual(border(chart), border_at(at))
            self.assertEqual(layers(chart), layers_at(at))

    def test_it_goes_round_to_the_left(self):
        self.assertEqual(border(Map(("a", "b", "c"), [True])), ("a", "b", "c"))
        self.assertEqual(border(Map(("a", "b", "c"), [False])), ("a", "c", "b"))
        self.assertEqual(border(VIEW), ("a", "b", "c"))
        self.assertEqual(border(VIEW.mirrored()), ("a", "c", "b"))
        self.assertEqual(border(FIVE_VIEW), ("b", "c", "e", "d"))

    def test_layers_of_every_map(self):
        for chart, at in all_placed():
            self.assertEqual(layers(chart), layers_at(at))
            self.assertEqual(layers(chart=chart), layers_at(at))

    def test_one_or_two_places_that_are_left_are_a_lot(self):
        self.assertEqual(layers(Map(("a", "b", "c"), [False])), (("a", "c", "b"),))
        self.assertEqual(layers(VIEW), (("a", "b", "c"), ("d",)))
        self.assertEqual(layers(FIVE_VIEW), (("b", "c", "e", "d"), ("a",)))
        two = from_spots([("a", 1, 2), ("b", 0, 0), ("c", 10, 0), ("d", 0, 10), ("e", 3, 1)])
        self.assertEqual(layers(two), (("b", "c", "d"), ("a", "e")))
        self.assertEqual(layers(two.mirrored()), (("b", "d", "c"), ("a", "e")))


class IsWithinTest(Case):

    def test_every_map_place_and_lot(self):
        for chart, at in all_placed():
            for place in chart.places:
                for lot in lots_of([other for other in chart.places if other != place]):
                    if len(lot) < 3:
                        self.refuses(BadLot, lot, is_within, chart, place)
                    else:
                        self.assertIs(is_within(chart, place, lot), within_at(at, place, lot))

    def test_as_the_border_of_the_map_of_the_lot_with_it(self):
        for chart, _ in placed(5):
            for place in WORDS:
                for lot in itertools.combinations([other for other in WORDS if other != place], 3):
                    small = chart.only(tuple(sorted((*lot, place))))
                    self.assertIs(is_within(chart, place, lot), place not in border(small))

    def test_by_name(self):
        self.assertIs(is_within(lot=("a", "b", "c"), place="d", chart=VIEW), True)
        self.assertIs(is_within(chart=VIEW, place="a", lot=("b", "c", "d")), False)

    def test_no_places(self):
        for value in [*wrong_values(), "f", "A", ("a",), ["a"], mock.ANY]:
            told = self.refused(BadPlace, is_within, FIVE_VIEW, value, ("b", "c", "d"))
            self.assertIs(told.value, value)

    def test_no_lots_of_three_or_more_others(self):
        for value in wrong_others():
            self.refuses(BadLot, value, is_within, FIVE_VIEW, "a")
        three = Map(("a", "b", "c"), [True])
        for value in lots_of(("a", "b", "c")):
            self.refuses(BadLot, value, is_within, three, "a")

    def test_the_place_is_told_ahead_of_the_lot(self):
        for value in wrong_values():
            self.assertEqual(self.refused(BadPlace, is_within, VIEW, "x", value).value, "x")


class DoCrossTest(Case):

    def test_every_map_and_each_two_ways(self):
        for chart, at in all_placed():
            for one, other in itertools.product(ways_of(chart.places), repeat=2):
                self.assertIs(do_cross(chart, one, other), cross_at(at, one, other))

    def test_a_place_in_common(self):
        for chart, _ in all_placed():
            for one, other in itertools.product(ways_of(chart.places), repeat=2):
                if set(one) & set(other):
                    self.assertIs(do_cross(chart, one, other), False)

    def test_by_name(self):
        self.assertIs(do_cross(other=("c", "d"), one=("b", "e"), chart=FIVE_VIEW), True)
        self.assertIs(do_cross(chart=FIVE_VIEW, one=("b", "c"), other=("d", "e")), False)

    def test_no_ways(self):
        for value in wrong_ways():
            self.assertIs(self.refused(BadLot, do_cross, FIVE_VIEW, value, ("a", "b")).value, value)
            self.refuses(BadLot, value, do_cross, FIVE_VIEW, ("a", "b"))
            self.assertEqual(self.refused(BadLot, do_cross, FIVE_VIEW, ("x", "y"), value).value, ("x", "y"))


class SightTest(Case):

    def test_every_map_and_place(self):
        for chart, at in all_placed():
            for place in chart.places:
                self.assertEqual(sight(chart, place), sight_at(at, place))
                self.assertEqual(sight(place=place, chart=chart), sight_at(at, place))

    def test_the_least_is_the_first(self):
        self.assertEqual(sight(FIVE_VIEW, "a"), ("b", "c", "e", "d"))
        self.assertEqual(sight(FIVE_VIEW.mirrored(), "a"), ("b", "d", "e", "c"))
        self.assertEqual(sight(FIVE_VIEW, "c"), ("a", "b", "e", "d"))
        self.assertEqual(sight(Map(("a", "b", "c"), [True]), "b"), ("a", "c"))
        self.assertEqual(sight(Map(("a", "b", "c"), [False]), "b"), ("a", "c"))

    def test_no_places(self):
        for value in [*wrong_values(), "e", "A", ("a",), ["a"], mock.ANY]:
            self.refuses(BadPlace, value, sight, VIEW)


class CanCutTest(Case):

    def test_every_map_and_lot(self):
        for chart, at in all_placed():
            cuts = cuts_at(at)
            for lot in lots_of(chart.places):
                self.assertIs(can_cut(chart, lot), lot in cuts)
                self.assertIs(can_cut(lot=lot, chart=chart), lot in cuts)

    def test_none_and_all_can_be_cut_off(self):
        for chart, _ in all_placed():
            self.assertIs(can_cut(chart, ()), True)
            self.assertIs(can_cut(chart, chart.places), True)

    def test_each_thing_that_bars_it(self):
        self.assertIs(can_cut(VIEW, ("d",)), False)
        self.assertIs(can_cut(VIEW, ("a", "b", "c")), False)
        self.assertIs(can_cut(FIVE_VIEW, ("c", "d")), False)
        self.assertIs(can_cut(FIVE_VIEW, ("c", "e")), True)

    def test_no_lots(self):
        for value in wrong_lots():
            self.refuses(BadLot, value, can_cut, FIVE_VIEW)


class MeetingTest(Case):

    def test_every_map_and_each_four(self):
        for chart, at in placed(4) + placed(5):
            for four in itertools.combinations(chart.places, 4):
                one, other = meeting(chart, four)
                self.assertEqual(meeting(four=four, chart=chart), (one, other))
                self.assertLess(one, other)
                self.assertEqual(tuple(sorted(one + other)), four)
                if len(one) == len(other):
                    self.assertTrue(cross_at(at, one, other))
                else:
                    lone, three = sorted((one, other), key=len)
                    self.assertEqual((len(lone), len(three)), (1, 3))
                    self.assertTrue(within_at(at, lone[0], three))

    def test_it_is_a_pair_of_tuples(self):
        self.assertEqual(meeting(VIEW, ("a", "b", "c", "d")), (("a", "b", "c"), ("d",)))
        self.assertEqual(meeting(FIVE_VIEW, ("b", "c", "d", "e")), (("b", "e"), ("c", "d")))
        self.assertEqual(meeting(FIVE_VIEW, ("a", "b", "c", "e")), (("a",), ("b", "c", "e")))

    def test_no_fours(self):
        wrong = [
            (), ("a",), ("a", "b"), ("a", "b", "c"), FIVE, ("a", "b", "d", "c"), ("a", "b", "c", "c"),
            ("a", "b", "c", "f"), ["a", "b", "c", "d"], "abcd", {"a", "b", "c", "d"},
        ]
        for value in wrong_values() + wrong:
            self.refuses(BadLot, value, meeting, FIVE_VIEW)
        three = Map(("a", "b", "c"), [True])
        for value in [*lots_of(("a", "b", "c")), ("a", "b", "c", "d")]:
            self.refuses(BadLot, value, meeting, three)


class SameAgainTest(Case):

    def test_whatever_was_asked_in_between(self):
        before = [(border(chart), layers(chart), sight(chart, "ant")) for chart, _ in all_placed()]
        for chart, _ in all_placed():
            self.refused(BadLot, can_cut, chart, ["ant"])
            can_cut(chart.mirrored(), ("ant",))
        again = [(border(chart), layers(chart), sight(chart, "ant")) for chart, _ in all_placed()]
        self.assertEqual(again, before)


if __name__ == "__main__":
    unittest.main()
