"""Points [0] to [4], [11], [12] and the class Map of leftmaps/maps.py."""

import itertools
import unittest

from leftmaps.errors import BadLot, BadPlace, BadPlaces, BadTurns
from leftmaps.maps import Map, all_maps, from_spots
from leftmaps.places import rules
from tests.case import Case
from tests.samples import WORDS, all_tables, broken_rules, placings, seen_tables, told, turns_at, wrong_values

THREE = ("a", "b", "c")
FOUR = ("a", "b", "c", "d")
FIVE = ("a", "b", "c", "d", "e")


def spots_at(places, points):
    """Spots of the places at the points, as from_spots takes them."""
    return [(place, x, y) for place, (x, y) in zip(places, points)]


class NewMapTest(Case):

    def test_fields(self):
        for turns in ([True], (True,), [False], (False,)):
            chart = Map(THREE, turns)
            self.assertEqual(chart.places, THREE)
            self.assertEqual(chart.turns, tuple(turns))
            self.assertIsInstance(chart.turns, tuple)
            self.assertEqual(Map(places=THREE, turns=turns), chart)

    def test_later_changes_have_no_effect(self):
        turns = [True, True, True, True]
        chart = Map(FOUR, turns)
        turns[0] = False
        turns.append(True)
        self.assertEqual(chart.turns, (True,) * 4)
        self.assertTrue(chart.left("a", "b", "c"))

    def test_arguments_stay_as_they_were(self):
        turns = [True, False, True, False]
        self.refused(BadTurns, Map, FOUR, turns)
        self.assertEqual(turns, [True, False, True, False])

    def test_bad_places(self):
        for value in [*wrong_values(), ("a", "b"), (*FIVE, "f"), ("a", "c", "b"), ["a", "b", "c"]]:
            for turns in ((True,), None, [1], (True, False, True, False)):
                self.assertIs(self.refused(BadPlaces, Map, value, turns).value, value)

    def test_bad_turns(self):
        wrong = [
            (), [], (True,) * 3, (True,) * 5, [True] * 3, [True] * 5, (True, True, True, 1), (0, True, True, True),
            [True, None, True, True], (True, True, "True", True), (True, True, True, (True,)), [True, True, True, []],
            [[True, True, True, True]], {1: True, 2: True, 3: True, 4: True}, {True, False}, "TTTT", b"TTTT", 4,
            range(4), (True for _ in range(4)), (True,) * 20000,
        ]
        for value in wrong_values() + wrong:
            self.assertIs(self.refused(BadTurns, Map, FOUR, value).place, None)

    def test_turns_of_the_wrong_kind_are_told_ahead_of_a_broken_rule(self):
        self.assertIs(self.refused(BadTurns, Map, FOUR, [True, False, True, 0]).place, None)

    def test_which_rule_four_places_break(self):
        error = self.refused(BadTurns, Map, FOUR, (True, False, True, False))
        self.assertEqual(error.place, ("within", "a", "b", "c", "d"))
        error = self.refused(BadTurns, Map, FOUR, [False, True, False, True])
        self.assertEqual(error.place, ("within", "a", "b", "d", "c"))

    def test_round_is_told_ahead_of_within(self):
        turns = next(turns for turns in all_tables(FIVE) if {name[0] for name in broken_rules(FIVE, turns)} ==
                     {"round", "within"})
        self.assertEqual(self.refused(BadTurns, Map, FIVE, turns).place[0], "round")

    def test_the_first_broken_rule_is_told_of_every_table(self):
        for places in (THREE, FOUR, FIVE, WORDS):
            for turns in all_tables(places):
                broken = broken_rules(places, turns)
                if broken:
                    self.assertEqual(self.refused(BadTurns, Map, places, turns).place, broken[0])
                else:
                    self.assertEqual(Map(places, turns).turns, turns)

    def test_each_rule_is_broken_by_some_table_and_each_sort_by_itself(self):
        met = set()
        sorts = set()
        for turns in all_tables(FIVE):
            broken = broken_rules(FIVE, turns)
            met.update(broken)
            sorts.add(tuple(sorted({name[0] for name in broken})))
        self.assertEqual(tuple(sorted(met)), rules(FIVE))
        self.assertEqual(sorts, {(), ("round",), ("within",), ("round", "within")})


class AllMapsTest(Case):

    def test_how_many(self):
        for many, maps in ((3, 2), (4, 14), (5, 264)):
            self.assertEqual(len(all_maps(FIVE[:many])), maps)

    def test_they_ascend_and_are_those_of_placings(self):
        for many in (3, 4, 5):
            for words in (FIVE[:many], WORDS[-many:]):
                found = [chart.turns for chart in all_maps(words)]
                self.assertEqual(found, sorted(set(found)))
                self.assertEqual(found, seen_tables(words))
                self.assertEqual({chart.places for chart in all_maps(places=words)}, {words})

    def test_a_new_list_each_time(self):
        found = all_maps(FOUR)
        self.assertIsInstance(found, list)
        self.assertEqual(found, all_maps(FOUR))
        found.clear()
        self.assertEqual(len(all_maps(FOUR)), 14)

    def test_bad_places(self):
        for value in [*wrong_values(), ("a", "b"), (*FIVE, "f")]:
            self.assertIs(self.refused(BadPlaces, all_maps, value).value, value)


class EqualTest(Case):

    def test_equal_by_both_fields(self):
        one = Map(THREE, [True])
        self.assertTrue(one == Map(THREE, (True,)))
        self.assertFalse(one != Map(THREE, (True,)))
        self.assertFalse(one == Map(THREE, [False]))
        self.assertTrue(one != Map(THREE, [False]))
        self.assertFalse(one == Map(("a", "b", "d"), [True]))
        self.assertFalse(one == Map(FOUR, [True] * 4))

    def test_every_map_equals_itself_alone(self):
        maps = all_maps(FOUR)
        for one, other in itertools.product(range(14), repeat=2):
            self.assertIs(maps[one] == maps[other], one == other)
            self.assertIs(maps[one] != maps[other], one != other)

    def test_beside_other_values(self):
        chart = Map(THREE, [True])
        for value in [*wrong_values(), THREE, (True,), (THREE, (True,))]:
            self.assertIs(chart == value, False)
            self.assertIs(value == chart, False)
            self.assertIs(chart != value, True)
            self.assertIs(value != chart, True)

    def test_len(self):
        for many in (3, 4, 5):
            for chart in all_maps(FIVE[:many]):
                self.assertEqual(len(chart), many)

    def test_other_operators(self):
        self.has_no_operators(Map(THREE, [True]), [Map(THREE, [False]), Map(THREE, [True])])

    def test_no_iterating_no_in_no_items(self):
        chart = Map(THREE, [True])
        for function in (iter, list, tuple, set, sorted):
            with self.assertRaises(TypeError):
                function(chart)
        with self.assertRaises(TypeError):
            for _ in chart:
                pass
        for value in ("a", True, None, THREE, chart):
            with self.assertRaises(TypeError):
                value in chart
        with self.assertRaises(TypeError):
            chart[0]


class LeftTest(Case):

    def test_all_orders_in_all_maps(self):
        for many in (3, 4, 5):
            for chart in all_maps(FIVE[:many]):
                told_of = told(chart.places, chart.turns)
                for a, b, c in itertools.permutations(chart.places, 3):
                    self.assertIs(chart.left(a, b, c), told_of[a, b, c])

    def test_at_a_placing(self):
        chart = from_spots([("a", 0, 0), ("b", 4, 0), ("c", 0, 4), ("d", 1, -1)])
        self.assertIs(chart.left("a", "b", "c"), True)
        self.assertIs(chart.left("a", "b", "d"), False)
        self.assertIs(chart.left("b", "a", "d"), True)
        self.assertIs(chart.left(c="c", a="a", b="b"), True)

    def test_no_places(self):
        chart = Map(THREE, [True])
        for value in [*wrong_values(), "d", "A", ("a",), ["a"]]:
            self.assertIs(self.refused(BadPlace, chart.left, value, "b", "c").value, value)
            self.assertIs(self.refused(BadPlace, chart.left, "a", value, "c").value, value)
            self.assertIs(self.refused(BadPlace, chart.left, "a", "b", value).value, value)
            self.assertIs(self.refused(BadPlace, chart.left, value, "zz", "y").value, value)
            self.assertIs(self.refused(BadPlace, chart.left, "c", value, value).value, value)

    def test_a_place_twice(self):
        chart = Map(THREE, [True])
        for values, first in (("aab", "a"), ("aba", "a"), ("abb", "b"), ("aaa", "a"), ("cxc", "x"), ("ccx", "c"),
                              ("xxa", "x"), ("axx", "x")):
            self.assertEqual(self.refused(BadPlace, chart.left, *values).value, first)


class OtherMapsTest(Case):

    def test_mirrored(self):
        for many in (3, 4, 5):
            places = FIVE[:many]
            for points in placings(many)[::7]:
                chart = from_spots(spots_at(places, points))
                mirrored = chart.mirrored()
                self.assertEqual(mirrored, from_spots(spots_at(places, [(-x, y) for x, y in points])))
                self.assertEqual(mirrored.turns, tuple(not turn for turn in chart.turns))
                self.assertEqual(mirrored.mirrored(), chart)
                self.assertNotEqual(mirrored, chart)

    def test_only(self):
        for points in placings(5)[::7]:
            spots = spots_at(FIVE, points)
            chart = from_spots(spots)
            for many in (3, 4, 5):
                for lot in itertools.combinations(FIVE, many):
                    part = from_spots([spot for spot in spots if spot[0] in lot])
                    self.assertEqual(chart.only(lot), part)
                    self.assertEqual(chart.only(lot=lot).places, lot)

    def test_only_of_no_lot(self):
        chart = from_spots(spots_at(FIVE, placings(5)[0]))
        wrong = [(), ("a",), ("a", "b"), ("a", "c", "b"), ("a", "b", "f"), ("a", "a", "b"), ["a", "b", "c"], "abc"]
        for value in wrong_values() + wrong:
            self.assertIs(self.refused(BadLot, chart.only, value).value, value)
        self.refused(BadLot, chart.only(FOUR).only, ("a", "b", "e"))

    def test_renamed(self):
        for many in (3, 4, 5):
            for points in placings(many)[::11]:
                chart = from_spots(spots_at(FIVE[:many], points))
                for words in itertools.permutations(("q", "a", "mm", "c", "zzzzzzzz")[:many]):
                    renamed = chart.renamed(words)
                    self.assertEqual(renamed, from_spots(spots_at(words, points)))
                    self.assertEqual(renamed.places, tuple(sorted(words)))
                self.assertEqual(chart.renamed(words=chart.places), chart)

    def test_renamed_by_no_names(self):
        chart = Map(THREE, [True])
        wrong = [
            (), ("a", "b"), FOUR, ["a", "b", "c"], "abc", ("a", "b", "b"), ("a", "b", ""), ("a", "b", "ccccccccc"),
            ("a", "b", "C"), ("a", "b", None), ("a", "b", ["c"]), ("a", "b", ("c",)), (1, 2, 3), {"a", "b", "c"},
        ]
        for value in wrong:
            self.assertIs(self.refused(BadPlaces, chart.renamed, value).value, value)
        for value in wrong_values():
            if value not in (("cat", "bee", "ant"), ("ant", "cat", "bee")):
                self.assertIs(self.refused(BadPlaces, chart.renamed, value).value, value)

    def test_grown(self):
        for many in (3, 4):
            places = ("b", "d", "f", "h")[:many]
            for word in ("a", "c", "e", "g", "i"):
                bigger = tuple(sorted((*places, word)))
                tables = seen_tables(bigger)
                for chart in all_maps(places):
                    found = chart.grown(word)
                    self.assertIsInstance(found, list)
                    kept = [turns for turns in tables if Map(bigger, turns).only(places) == chart]
                    self.assertEqual([one.turns for one in found], kept)
                    self.assertEqual({one.places for one in found}, {bigger})
                    self.assertEqual(chart.grown(word=word), found)

    def test_grown_gives_all_maps(self):
        self.assertEqual(sum(len(chart.grown("d")) for chart in all_maps(THREE)), 14)
        self.assertEqual(sum(len(chart.grown("e")) for chart in all_maps(FOUR)), 264)

    def test_grown_is_a_new_list(self):
        chart = Map(THREE, [True])
        chart.grown("d").clear()
        self.assertEqual(len(chart.grown("d")), 7)

    def test_grown_by_no_word(self):
        chart = Map(("bee", "cat", "dog"), [True])
        for value in [value for value in wrong_values() if value != "zz"] + ["bee", "cat", "dog", "A", "abcdefghi"]:
            self.assertIs(self.refused(BadPlace, chart.grown, value).value, value)
        self.assertEqual(len(chart.grown("zz")), 7)

    def test_grown_of_five_places(self):
        chart = all_maps(FIVE)[0]
        for value in ["f", "a", *wrong_values()]:
            self.assertEqual(self.refused(BadPlaces, chart.grown, value).value, FIVE)

    def test_maps_never_change(self):
        chart = from_spots(spots_at(FOUR, placings(4)[3]))
        before = (chart.places, chart.turns)
        chart.mirrored()
        chart.only(THREE)
        chart.renamed(("x", "b", "c", "a"))
        chart.grown("e")
        chart.left("a", "b", "c")
        self.refused(BadPlace, chart.grown, "a")
        self.assertEqual((chart.places, chart.turns), before)
        self.assertEqual(chart.turns, turns_at(FOUR, placings(4)[3]))


if __name__ == "__main__":
    unittest.main()
