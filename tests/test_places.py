"""Points [4], [10], [12], [14] and the interface of leftmaps/places.py."""

import itertools
import unittest
from unittest import mock

from leftmaps import places as module
from leftmaps.errors import BadPlaces
from leftmaps.places import is_lot, need_places, rules, threes, ways
from tests.samples import WORDS, rule_names, wrong_values

FOUR = ("a", "b", "c", "d")
FIVE = ("a", "b", "c", "d", "e")


class NeedPlacesTest(unittest.TestCase):

    def assert_refused(self, value):
        with self.assertRaises(BadPlaces) as caught:
            need_places(value)
        self.assertIs(caught.exception.value, value)

    def test_most_places(self):
        self.assertEqual(module.MOST_PLACES, 5)

    def test_places_are_given_back(self):
        for many in (3, 4, 5):
            value = WORDS[:many]
            self.assertIs(need_places(value), value)
            self.assertIs(need_places(thing=value), value)

    def test_words_of_1_and_of_8_letters(self):
        for value in (("a", "b", "c"), ("a", "aa", "aaaaaaaa"), ("abcdefgh", "qrstuvwx", "zzzzzzzz")):
            self.assertIs(need_places(value), value)

    def test_words_of_0_and_of_9_letters(self):
        self.assert_refused(("", "b", "c"))
        self.assert_refused(("aaaaaaaaa", "b", "c"))
        self.assert_refused(("a", "b", "ccccccccc"))

    def test_letters_are_from_a_to_z(self):
        for word in ("B", "b1", "1", "b b", " b", "b\n", "b-", "b_", "`", "{", "bZ"):
            self.assert_refused(tuple(sorted(("a", word, "zz"))))

    def test_2_and_6_places(self):
        self.assert_refused(())
        self.assert_refused(("a",))
        self.assert_refused(("a", "b"))
        self.assert_refused((*FIVE, "f"))

    def test_places_that_do_not_ascend(self):
        for order in itertools.permutations(FOUR):
            if order != FOUR:
                self.assert_refused(order)
        self.assert_refused(("a", "b", "b"))
        self.assert_refused(("a", "a", "b", "c"))

    def test_other_values(self):
        for value in wrong_values():
            self.assert_refused(value)


class IsLotTest(unittest.TestCase):

    def test_lots_of_all_sizes(self):
        for many in range(6):
            for lot in itertools.combinations(FIVE, many):
                self.assertIs(is_lot(FIVE, lot), True)
                self.assertIs(is_lot(places=FIVE, thing=lot), True)

    def test_orders_that_do_not_ascend(self):
        for many in range(2, 6):
            for lot in itertools.permutations(FIVE, many):
                self.assertIs(is_lot(FIVE, lot), list(lot) == sorted(lot))

    def test_no_lots(self):
        for value in (("a", "a"), ("e",), ("a", "e"), ("a", "b", "c", "d", "e"), "a", "", ["a"], [], {"a"}, {}):
            self.assertIs(is_lot(FOUR, value), False)
        self.assertIs(is_lot(FOUR, ("A",)), False)
        for value in wrong_values():
            self.assertIs(is_lot(WORDS, value), False)

    def test_what_equals_everything_is_no_place(self):
        self.assertIs(is_lot(FOUR, (mock.ANY,)), False)

    def test_a_tuple_as_an_item(self):
        self.assertIs(is_lot(FOUR, (("a",),)), False)
        self.assertIs(is_lot(FOUR, ("a", ("b",))), False)


class ThreesWaysRulesTest(unittest.TestCase):

    def test_threes_of_3_4_5_places(self):
        self.assertEqual(threes(("a", "b", "c")), (("a", "b", "c"),))
        self.assertEqual(threes(FOUR), (("a", "b", "c"), ("a", "b", "d"), ("a", "c", "d"), ("b", "c", "d")))
        self.assertEqual(threes(FIVE), (
            ("a", "b", "c"), ("a", "b", "d"), ("a", "b", "e"), ("a", "c", "d"), ("a", "c", "e"), ("a", "d", "e"),
            ("b", "c", "d"), ("b", "c", "e"), ("b", "d", "e"), ("c", "d", "e"),
        ))

    def test_ways_of_3_4_5_places(self):
        self.assertEqual(ways(("a", "b", "c")), (("a", "b"), ("a", "c"), ("b", "c")))
        self.assertEqual(ways(FOUR), (("a", "b"), ("a", "c"), ("a", "d"), ("b", "c"), ("b", "d"), ("c", "d")))
        self.assertEqual(ways(WORDS), tuple(itertools.combinations(WORDS, 2)))

    def test_rules_of_3_and_4_places(self):
        self.assertEqual(rules(("a", "b", "c")), ())
        self.assertEqual(rules(FOUR), (
            ("within", "a", "b", "c", "d"), ("within", "a", "b", "d", "c"),
            ("within", "b", "a", "c", "d"), ("within", "b", "a", "d", "c"),
            ("within", "c", "a", "b", "d"), ("within", "c", "a", "d", "b"),
            ("within", "d", "a", "b", "c"), ("within", "d", "a", "c", "b"),
        ))

    def test_rules_of_5_places(self):
        found = rules(FIVE)
        self.assertEqual(len(found), 160)
        self.assertEqual(found, tuple(sorted(set(found))))
        self.assertEqual(found[:120], tuple(("round", *order) for order in itertools.permutations(FIVE)))
        self.assertEqual([name[0] for name in found[120:]], ["within"] * 40)
        self.assertEqual(found, rule_names(FIVE))
        self.assertEqual(rules(WORDS), rule_names(WORDS))

    def test_by_name_and_as_tuples(self):
        for function in (threes, ways, rules):
            self.assertEqual(function(places=FOUR), function(FOUR))
            self.assertIsInstance(function(FOUR), tuple)
            for item in function(FOUR):
                self.assertIsInstance(item, tuple)


if __name__ == "__main__":
    unittest.main()
