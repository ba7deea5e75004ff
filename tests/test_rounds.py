"""Point [18] and the interface of leftmaps/rounds.py."""

import functools
import itertools
import unittest
from unittest import mock

from leftmaps.errors import BadPlaces, BadRound
from leftmaps.maps import Map, from_spots
from leftmaps.rounds import all_rounds, check_undoing, clean_rounds, crossings, longest_undoing, undone
from tests.case import Case
from tests.plain import all_placed, crossings_at, rounds_of, undoings_at, undone_at
from tests.samples import WORDS, wrong_values

FIVE = ("a", "b", "c", "d", "e")

# Five places at the border, so that a, c, e, b, d is a star.
STAR = from_spots([("a", 2, 0), ("b", 4, 2), ("c", 3, 4), ("d", 1, 4), ("e", 0, 2)])
TOUR = ("a", "c", "e", "b", "d")


@functools.cache
def placed_tours():
    """Every map and round of 3, 4 and 5 places, beside all that can be undone, from each round on."""
    found = []
    for chart, at in all_placed():
        for tour in rounds_of(chart.places):
            found.append((chart, at, tour, undoings_at(at, tour)))
    return found


def wrong_rounds():
    """Things that are near a round of the first five letters, and such of any kind."""
    orders = [order for order in itertools.permutations(FIVE) if order not in rounds_of(FIVE)]
    near = [
        (), FIVE[:4], (*FIVE, "f"), (*FIVE, "a"), ("a", "b", "c", "d", "d"), ("a", "a", "b", "c", "d"),
        ("a", "b", "b", "d", "e"), ("a", "b", "c", "d", "f"), ("a", "b", "c", "d", ("e",)), ("a", "b", "c", "d", None),
        list(FIVE), "abcde", set(FIVE), dict.fromkeys(FIVE), (FIVE,), ("a",), (1, 2, 3, 4, 5),
        ("a", "b", "c", "d", mock.ANY), mock.ANY, ("a", "b", "c", "d", {}), ("a", ["b"], "c", "d", "e"),
    ]
    return orders + near + wrong_values()


class AllRoundsTest(Case):

    def test_written_out(self):
        self.assertEqual(all_rounds(("a", "b", "c")), (("a", "b", "c"),))
        self.assertEqual(all_rounds(FIVE[:4]), (("a", "b", "c", "d"), ("a", "b", "d", "c"), ("a", "c", "b", "d")))
        self.assertEqual(["".join(tour) for tour in all_rounds(FIVE)], [
            "abcde", "abced", "abdce", "abdec", "abecd", "abedc", "acbde", "acbed", "acdbe", "acebd", "adbce", "adcbe",
        ])

    def test_against_all_orders(self):
        for many in (3, 4, 5):
            self.assertEqual(all_rounds(WORDS[:many]), rounds_of(WORDS[:many]))
            self.assertEqual(all_rounds(places=WORDS[-many:]), rounds_of(WORDS[-many:]))

    def test_bad_places(self):
        for value in [*wrong_values(), ("a", "b"), (*FIVE, "f"), ("b", "a", "c"), list(FIVE), "abc"]:
            self.refuses(BadPlaces, value, all_rounds)


class CrossingsTest(Case):

    def test_every_map_and_round(self):
        for chart, at, tour, _ in placed_tours():
            self.assertEqual(crossings(chart, tour), crossings_at(at, tour))
            self.assertEqual(crossings(tour=tour, chart=chart), crossings_at(at, tour))

    def test_written_out(self):
        self.assertEqual(crossings(STAR, FIVE), ())
        self.assertEqual(crossings(STAR, TOUR), (
            (("a", "c"), ("b", "d")), (("a", "c"), ("b", "e")), (("a", "d"), ("b", "e")), (("a", "d"), ("c", "e")),
            (("b", "d"), ("c", "e")),
        ))
        self.assertEqual(crossings(STAR, ("a", "b", "c", "e", "d")), ((("a", "d"), ("c", "e")),))

    def test_clean_rounds_of_every_map(self):
        for chart, at in all_placed():
            clean = tuple(tour for tour in rounds_of(chart.places) if crossings_at(at, tour) == ())
            self.assertEqual(clean_rounds(chart), clean)
            self.assertEqual(clean_rounds(chart=chart), clean)
            self.assertNotEqual(clean, ())

    def test_clean_rounds_written_out(self):
        self.assertEqual(clean_rounds(Map(("a", "b", "c"), [False])), (("a", "b", "c"),))
        self.assertEqual(clean_rounds(STAR), (FIVE,))
        self.assertEqual(clean_rounds(STAR.only(("a", "b", "d", "e"))), (("a", "b", "d", "e"),))

    def test_no_rounds(self):
        for value in wrong_rounds():
            self.refuses(BadRound, value, crossings, STAR)
            self.refuses(BadRound, value, undone, STAR)
            self.refuses(BadRound, value, longest_undoing, STAR)
            for thing in ((), (FIVE,), None):
                self.assertIs(self.refused(BadRound, check_undoing, STAR, value, thing).value, value)
        self.refuses(BadRound, FIVE, crossings, STAR.only(FIVE[:4]))
        self.refuses(BadRound, ("a", "c", "b"), undone, Map(("a", "b", "c"), [True]))


class UndoneTest(Case):

    def test_every_map_and_round(self):
        for chart, at, tour, _ in placed_tours():
            self.assertEqual(undone(chart, tour), undone_at(at, tour))
            self.assertEqual(undone(tour=tour, chart=chart), undone_at(at, tour))

    def test_written_out(self):
        self.assertEqual(undone(STAR, FIVE), ())
        self.assertEqual(undone(STAR, ("a", "b", "c", "e", "d")), (FIVE,))
        found = undone(STAR, ("a", "c", "d", "b", "e"))
        self.assertEqual(found, (("a", "b", "d", "c", "e"), ("a", "d", "c", "b", "e")))
        self.assertEqual(["".join(tour) for tour in undone(STAR, TOUR)], ["abdec", "abecd", "acbed", "acdbe", "adbce"])

    def test_all_are_different(self):
        for chart, _, tour, _ in placed_tours():
            self.assertEqual(len(set(undone(chart, tour))), len(undone(chart, tour)))


class LongestUndoingTest(Case):

    def test_every_map_and_round(self):
        for chart, _, tour, rows in placed_tours():
            found = longest_undoing(chart, tour)
            self.assertIn(found, rows)
            self.assertEqual(len(found), max(map(len, rows)))
            self.assertIs(check_undoing(chart, tour, found), True)
            self.assertEqual(longest_undoing(tour=tour, chart=chart), found)

    def test_a_clean_round_is_all(self):
        for chart, _ in all_placed():
            for tour in clean_rounds(chart):
                self.assertEqual(longest_undoing(chart, tour), (tour,))

    def test_how_long_they_get(self):
        self.assertEqual({max(map(len, rows)) for _, _, _, rows in placed_tours()}, {1, 2, 3, 4})


class CheckUndoingTest(Case):

    def test_all_rows_of_every_map_and_round(self):
        for chart, at, tour, rows in placed_tours():
            for row in rows:
                ends_clean = crossings_at(at, row[-1]) == ()
                self.assertIs(check_undoing(chart, tour, row), ends_clean)
                self.assertIs(check_undoing(thing=row, tour=tour, chart=chart), ends_clean)

    def test_shorter_rows_that_end_clean(self):
        shorter = 0
        for chart, at, tour, rows in placed_tours():
            for row in rows:
                if crossings_at(at, row[-1]) == () and len(row) < max(map(len, rows)):
                    self.assertIs(check_undoing(chart, tour, row), True)
                    shorter += 1
        self.assertGreater(shorter, 100)

    def test_rows_that_begin_with_another_round(self):
        for chart, _, tour, _ in placed_tours():
            for other in rounds_of(chart.places):
                if other != tour:
                    self.assertIs(check_undoing(chart, tour, longest_undoing(chart, other)), False)

    def test_rows_that_leap_or_stay(self):
        for chart, _, tour, _ in placed_tours():
            row = longest_undoing(chart, tour)
            for n in range(len(row)):
                self.assertIs(check_undoing(chart, tour, row[:n + 1] + row[n:]), False)
                self.assertIs(check_undoing(chart, tour, row[:n] + (list(row[n]),) + row[n + 1:]), False)
                self.assertIs(check_undoing(chart, tour, row[:n] + (None,) + row[n:]), False)
            self.assertIs(check_undoing(chart, tour, row[1:]), False)
            self.assertIs(check_undoing(chart, tour, row + (tour,)), False)
            self.assertIs(check_undoing(chart, tour, list(row)), False)

    def test_all_pairs_of_rounds(self):
        for second, third in itertools.product(rounds_of(FIVE), repeat=2):
            right = second in undone(STAR, TOUR) and third in undone(STAR, second) and third == FIVE
            self.assertIs(check_undoing(STAR, TOUR, (TOUR, second, third)), right)

    def test_other_values(self):
        wrong = [(), [], [FIVE], FIVE, (FIVE, FIVE), (FIVE[:4],), {FIVE}, {FIVE: 1}, ((),), (None,), (FIVE, ()), TOUR]
        for value in wrong_values() + wrong:
            self.assertIs(check_undoing(STAR, FIVE, value), False)
            self.assertIs(check_undoing(STAR, TOUR, value), False)
        for value in wrong_rounds():
            self.assertIs(check_undoing(STAR, FIVE, (FIVE, value)), False)
            self.assertIs(check_undoing(STAR, FIVE, (value,)), False)
        self.assertIs(check_undoing(STAR, FIVE, (FIVE,)), True)


class SameAgainTest(Case):

    def test_whatever_was_asked_in_between(self):
        before = [(undone(chart, tour), longest_undoing(chart, tour)) for chart, _, tour, _ in placed_tours()[::17]]
        for value in wrong_rounds():
            self.refused(BadRound, undone, STAR, value)
        crossings(STAR, TOUR)
        again = [(undone(chart, tour), longest_undoing(chart, tour)) for chart, _, tour, _ in placed_tours()[::17]]
        self.assertEqual(again, before)


if __name__ == "__main__":
    unittest.main()
