"""Points [11], [26]: from_spots and spots_of of leftmaps/maps.py."""

import itertools
import unittest

from leftmaps.errors import BadSpots
from leftmaps.maps import Map, all_maps, from_spots, spots_of
from tests.samples import WORDS, placings, turns_at, wrong_values

FOUR = [("a", 0, 0), ("b", 4, 0), ("c", 0, 4), ("d", 1, 1)]
HUGE = 10 ** 999


class FromSpotsTest(unittest.TestCase):

    def assert_refused(self, spots, place):
        with self.assertRaises(BadSpots) as caught:
            from_spots(spots)
        self.assertIs(caught.exception.__class__, BadSpots)
        self.assertEqual(caught.exception.place, place)
        self.assertIs(caught.exception.place.__class__, place.__class__)

    def test_maps_of_placings(self):
        for many in (3, 4, 5):
            places = WORDS[:many]
            for points in placings(many):
                spots = tuple((place, x, y) for place, (x, y) in zip(places, points))
                self.assertEqual(from_spots(spots), Map(places, turns_at(places, points)))

    def test_in_any_order_as_a_list_or_a_tuple(self):
        chart = from_spots(FOUR)
        self.assertEqual(chart.places, ("a", "b", "c", "d"))
        self.assertEqual(chart.turns, (True, True, False, True))
        for spots in itertools.permutations(FOUR):
            self.assertEqual(from_spots(spots), chart)
            self.assertEqual(from_spots(spots=list(spots)), chart)

    def test_the_list_stays_as_it_was(self):
        spots = FOUR[::-1]
        from_spots(spots)
        self.assertEqual(spots, FOUR[::-1])

    def test_great_numbers_and_numbers_below_0(self):
        near = [("c", -HUGE, -HUGE), ("a", 0, 0), ("b", HUGE, HUGE - 1)]
        self.assertEqual(from_spots(near), Map(("a", "b", "c"), [False]))
        near[2] = ("b", HUGE - 1, HUGE)
        self.assertEqual(from_spots(near), Map(("a", "b", "c"), [True]))
        near[2] = ("b", HUGE, HUGE)
        self.assert_refused(near, ("a", "b", "c"))
        self.assertEqual(from_spots([(word, x - 9, y - 9) for word, x, y in FOUR]), from_spots(FOUR))

    def test_no_list_of_3_to_5(self):
        five = [*FOUR, ("e", 7, 2)]
        self.assertEqual(len(from_spots(five)), 5)
        wrong = [
            [], (), FOUR[:1], FOUR[:2], tuple(FOUR[:2]), [*five, ("f", 9, 1)], {1: FOUR[0], 2: FOUR[1], 3: FOUR[2]},
            set(FOUR), frozenset(FOUR), "abc", b"abc", 3, None, True, range(4), iter(FOUR), object(), [None] * 6,
            [None] * 2,
        ]
        for value in wrong:
            self.assert_refused(value, None)

    def test_items_that_are_none(self):
        wrong = [
            None, True, 3, "a", ["a", 0, 0], (), ("e",), ("e", 9), ("e", 9, 1, 1), ("e", 9, True), ("e", False, 9),
            ("e", None, 9), ("e", "9", 9), ("e", 9, (1,)), ("e", [], 9), ("", 9, 9), ("E", 9, 9), (1, 9, 9),
            (None, 9, 9), (("e",), 9, 9), (["e"], 9, 9), ({}, 9, 9), ("abcdefghi", 9, 9), (9, 9, "e"), {"e": 1},
        ]
        for value in wrong_values() + wrong:
            for number in range(5):
                self.assert_refused(FOUR[:number] + [value] + FOUR[number:], number)
            self.assert_refused([*FOUR[:2], value, value], 2)

    def test_a_word_twice(self):
        self.assert_refused([("a", 0, 0), ("a", 1, 0), ("b", 0, 1)], 1)
        self.assert_refused([("a", 0, 0), ("b", 1, 0), ("a", 0, 1)], 2)
        self.assert_refused([("a", 0, 0), ("b", 1, 0), ("b", 1, 0), ("c", 0, 1), ("a", 5, 5)], 2)
        self.assert_refused([("a", 0, 0), ("b", 1, 0), ("a", 0, 1), None], 2)
        self.assert_refused([("a", 0, 0), None, ("a", 0, 1), ("b", 1, 1)], 1)

    def test_three_on_one_line(self):
        self.assert_refused([("c", 2, 2), ("b", 1, 1), ("a", 0, 0)], ("a", "b", "c"))
        self.assert_refused([("a", 0, 0), ("b", 1, 0), ("c", 0, 1), ("d", -1, 2)], ("b", "c", "d"))
        self.assert_refused([("a", 0, 0), ("b", 1, 0), ("c", 0, 1), ("d", 0, 5)], ("a", "c", "d"))
        self.assert_refused([("e", 3, 0), ("d", 0, 3), ("c", 0, 1), ("b", 1, 0), ("a", 0, 0)], ("a", "b", "e"))
        self.assert_refused([("a", 5, 0), ("b", 5, 1), ("c", 5, -7)], ("a", "b", "c"))

    def test_two_at_one_spot(self):
        self.assert_refused([("a", 1, 1), ("b", 1, 1), ("c", 0, 4)], ("a", "b", "c"))
        self.assert_refused([("a", 0, 0), ("b", 1, 0), ("c", 0, 1), ("d", 0, 1)], ("a", "c", "d"))

    def test_an_item_is_told_ahead_of_a_line(self):
        self.assert_refused([("a", 0, 0), ("b", 1, 1), ("c", 2, 2), ("d", 0, None)], 3)
        self.assert_refused([("a", 0, 0), ("b", 1, 1), ("c", 2, 2), ("a", 0, 9)], 3)


class SpotsOfTest(unittest.TestCase):

    def test_spots_of_every_map(self):
        for many in (3, 4, 5):
            for places in (WORDS[:many], ("a", "b", "c", "d", "e")[-many:]):
                for chart in all_maps(places):
                    spots = spots_of(chart)
                    self.assertEqual(from_spots(spots), chart)
                    self.assertEqual(tuple(spot[0] for spot in spots), places)
                    self.assert_is_told_as_spots(spots)
                    self.assertEqual(spots_of(chart=chart), spots)

    def assert_is_told_as_spots(self, spots):
        self.assertIs(spots.__class__, tuple)
        for spot in spots:
            self.assertIs(spot.__class__, tuple)
            self.assertEqual([part.__class__ for part in spot], [str, int, int])
            self.assertLess(max(abs(spot[1]), abs(spot[2])), 10 ** 900)

    def test_they_hang_on_the_map_alone(self):
        for chart in all_maps(WORDS)[::9]:
            self.assertEqual(spots_of(chart), spots_of(Map(chart.places, list(chart.turns))))


if __name__ == "__main__":
    unittest.main()
