"""Points [21] to [23] and the interface of leftmaps/trees.py."""

import itertools
import random
import unittest
from unittest import mock

from leftmaps.books import Book
from leftmaps.errors import BadClaim, BadPlaces
from leftmaps.trees import closed, is_quarrel, judged, shows
from tests.booked import NEVER, chain_of, closed_by, closed_once, ends_in, full_tree, in_any_order, is_shown, is_so
from tests.booked import judge, kept, possible_books, quarrels, random_trees, told_maps, tree_with, turns_of, where
from tests.booked import with_further
from tests.case import Case
from tests.claimed import ABC, BAD_PLACES, FOUR, THREE, alls, claims_on, nots, wide, wrong_claims
from tests.samples import WORDS, rule_names, wrong_values

FOUR_LOTS = list(itertools.combinations(FOUR, 3))
LOT = ("a", "b", "c")
CASE = (LOT, (), ())

# The three places a, b, c, of which d lies within, and what follows from that.
WITHIN = {("a", "b", "d"): True, ("b", "c", "d"): True, ("a", "c", "d"): False}


def lots_on(many):
    """The threes of the first so many words."""
    return list(itertools.combinations(WORDS[:many], 3))


def all_known(lots):
    """All known turns of these threes."""
    for turns in itertools.product((True, False, None), repeat=len(lots)):
        yield {lot: turn for lot, turn in zip(lots, turns) if turn is not None}


def some_known(how_many):
    """Some known turns of five places, half of them such that some map has them."""
    chance = random.Random(5)
    for number in range(how_many):
        told_of = chance.choice(told_maps(WORDS))
        lots = chance.sample(lots_on(5), chance.randrange(11))
        turns = [told_of[lot] if number & 1 else chance.random() < 0.5 for lot in lots]
        yield dict(zip(lots, turns))


class ClosedTest(Case):

    def assert_closed(self, places, known):
        """Fails if known turns are not closed as by [21]; returns what they are closed to."""
        passed = dict(known)
        found = closed(places, known)
        self.assertEqual(known, passed)
        self.assertIsNot(found, known)
        self.assertEqual(found, closed_once(places, tuple(sorted(known.items()))))
        if found is not None:
            self.assertIs(found.__class__, dict)
            self.assertEqual({turn.__class__ for turn in found.values()} - {bool}, set())
            self.assertEqual(closed(places, found), found)
            self.assertEqual({**found, **known}, found)
        return found

    def test_all_known_turns_of_three_and_four_places(self):
        for known in all_known(lots_on(3)):
            self.assertEqual(self.assert_closed(WORDS[:3], known), known)
        for known in all_known(lots_on(4)):
            self.assert_closed(WORDS[:4], known)

    def test_known_turns_of_five_places(self):
        empty = 0
        for known in some_known(600):
            empty += self.assert_closed(WORDS, known) is None
        self.assertGreater(empty, 50)
        self.assertLess(empty, 300)

    def test_what_comes_holds_of_each_map_that_has_the_known_turns(self):
        grown = 0
        for known in some_known(300):
            found = closed(WORDS, known)
            for told_of in told_maps(WORDS):
                if all(told_of[lot] is turn for lot, turn in known.items()):
                    self.assertIsNotNone(found)
                    self.assertEqual({lot: told_of[lot] for lot in found}, found)
                    grown += len(found) > len(known)
        self.assertGreater(grown, 100)

    def test_all_turns_of_a_map_stay_and_all_of_no_map_are_empty(self):
        for many in (3, 4, 5):
            maps = [{lot: told_of[lot] for lot in lots_on(many)} for told_of in told_maps(WORDS[:many])]
            for known in maps:
                self.assertEqual(closed(WORDS[:many], known), known)
        for turns in itertools.product((False, True), repeat=10):
            known = dict(zip(lots_on(5), turns))
            self.assertEqual(closed(WORDS, known), known if known in maps else None)

    def test_the_order_of_the_dict_and_of_the_rules_makes_no_difference(self):
        chance = random.Random(8)
        for known in some_known(150):
            found = closed(WORDS, known)
            items = list(known.items())
            chance.shuffle(items)
            self.assertEqual(closed(WORDS, dict(items)), found)
            self.assertEqual(closed(WORDS, dict(sorted(known.items(), reverse=True))), found)
            self.assertEqual(closed_by(rule_names(WORDS)[::-1], known), found)

    def test_each_rule_both_ways(self):
        for name in rule_names(WORDS):
            premises, conclusion = turns_of(name)
            barred = [(turn, True) for turn in premises] + [(conclusion, False)]
            for left, so in barred:
                known = {}
                for turn, is_left in barred:
                    if turn != left:
                        known = with_further(known, turn, is_left)
                found = closed(WORDS, known)
                self.assertIs(in_any_order(found)[left], not so)
                self.assertIsNone(closed(WORDS, with_further(known, left, so)))

    def test_by_hand(self):
        self.assertEqual(closed(FOUR, WITHIN), {**WITHIN, LOT: True})
        self.assertIsNone(closed(FOUR, {**WITHIN, LOT: False}))
        two = {LOT: False, ("a", "b", "d"): True, ("b", "c", "d"): True}
        self.assertEqual(closed(FOUR, two), {**two, ("a", "c", "d"): True})
        self.assertEqual(closed(known={LOT: True}, places=FOUR), {LOT: True})

    def test_nothing_known_is_not_empty(self):
        for places in (THREE, FOUR, WORDS):
            found = closed(places, {})
            self.assertEqual(found, {})
            self.assertIs(found.__class__, dict)

    def test_a_new_dict_each_time(self):
        known = dict(WITHIN)
        found = closed(FOUR, known)
        found.clear()
        known[LOT] = False
        self.assertEqual(closed(FOUR, WITHIN), {**WITHIN, LOT: True})
        full = closed(FOUR, closed(FOUR, WITHIN))
        full[LOT] = False
        self.assertEqual(closed(FOUR, WITHIN), {**WITHIN, LOT: True})

    def test_bad_places(self):
        for value in wrong_values() + BAD_PLACES:
            for known in ({}, {LOT: True}):
                self.assertIs(self.refused(BadPlaces, closed, value, known).value, value)


class JudgedTest(Case):

    def test_claims_of_each_sort_at_all_known_turns_of_four_places(self):
        told = set()
        for known in all_known(lots_on(4)):
            told_of = in_any_order(known)
            for claim in claims_on(WORDS[:4]):
                found = judged(known, claim)
                self.assertIs(found, judge(told_of, claim))
                told.add((claim[0], found))
        self.assertEqual(told, set(itertools.product(("left", "all", "some", "not"), (True, False, None))))

    def test_claims_of_five_places(self):
        for known in some_known(60):
            told_of = in_any_order(known)
            for claim in claims_on(WORDS)[::3]:
                self.assertIs(judged(known, claim), judge(told_of, claim))

    def test_where_all_is_known_a_claim_is_what_it_is_of_the_map(self):
        for told_of in told_maps(WORDS)[::7]:
            known = {lot: told_of[lot] for lot in lots_on(5)}
            for claim in claims_on(WORDS):
                self.assertIs(judged(known, claim), is_so(told_of, claim))

    def test_all_of_none_and_some_of_none(self):
        for known in ({}, {LOT: True}, WITHIN):
            self.assertIs(judged(known, ("all", ())), True)
            self.assertIs(judged(known, ("some", ())), False)
            self.assertIs(judged(claim=("not", ("some", ())), known=known), True)

    def test_an_atom_in_any_order(self):
        for order in itertools.permutations(LOT):
            even = order in (("a", "b", "c"), ("b", "c", "a"), ("c", "a", "b"))
            for turn in (True, False):
                self.assertIs(judged({LOT: turn}, ("left", *order)), turn is even)
                self.assertIs(judged({LOT: turn}, ("not", ("left", *order))), turn is not even)
            self.assertIsNone(judged({}, ("left", *order)))
            self.assertIsNone(judged({}, ("not", ("left", *order))))

    def test_what_settles_beside_what_is_open(self):
        open_one = ("left", "a", "b", "d")
        no = ("left", "b", "a", "c")
        known = {LOT: True}
        for word, claims, found in (
                ("all", (ABC, open_one), None), ("all", (open_one, no), False), ("all", (no, open_one), False),
                ("all", (ABC, ABC), True), ("some", (ABC, open_one), True), ("some", (open_one, ABC), True),
                ("some", (no, open_one), None), ("some", (no, no), False), ("all", (open_one,), None),
                ("some", (open_one,), None), ("some", (open_one, ("not", open_one)), None),
                ("all", (open_one, ("not", open_one)), None), ("some", (NEVER, ("all", ())), True),
                ("all", (NEVER, open_one), False)):
            self.assertIs(judged(known, (word, claims)), found)

    def test_as_they_are_passed_not_closed(self):
        self.assertIsNone(judged(WITHIN, ABC))
        self.assertIs(judged(closed(FOUR, WITHIN), ABC), True)
        self.assertIs(judged({**WITHIN, LOT: False}, ABC), False)

    def test_deep_and_wide_claims(self):
        self.assertEqual([judged({LOT: True}, nots(deep)) for deep in range(1, 9)], [True, False] * 4)
        self.assertEqual([judged({}, nots(deep)) for deep in range(1, 9)], [None] * 8)
        self.assertIs(judged({LOT: False}, wide(300)), False)
        self.assertIs(judged({LOT: True}, alls(8)), False)

    def test_the_dict_stays_as_it_was(self):
        known = dict(WITHIN)
        judged(known, ABC)
        self.assertEqual(known, WITHIN)
        self.assertEqual(list(known), list(WITHIN))


class ShowsTest(Case):

    def test_trees_against_plain_closing(self):
        for many, how_many in ((3, 40), (4, 60), (5, 30)):
            told = {True: 0, False: 0}
            for number, tree in enumerate(random_trees(many, how_many)):
                for places, facts in (possible_books(many, 40) + quarrels(many, 10))[number % 7::7]:
                    book = Book(places, facts)
                    for claim in claims_on(places)[number % 11::23]:
                        found = shows(book, claim, tree)
                        self.assertIs(found, is_shown(places, facts, claim, tree))
                        told[found] += 1
                    self.assertIs(is_quarrel(book, tree), is_shown(places, facts, NEVER, tree))
            self.assertGreater(min(told.values()), 30)

    def test_what_is_shown_follows(self):
        for number, tree in enumerate(random_trees(4, 60)):
            for places, facts in possible_books(4, 40)[number % 5::5]:
                for claim in claims_on(places)[number % 13::13]:
                    if shows(Book(places, facts), claim, tree):
                        self.assertLessEqual(kept(places, facts), where(places, claim))

    def test_all_threes_asked_for_in_any_order(self):
        chance = random.Random(4)
        for many in (3, 4, 5):
            lots = lots_on(many)
            for places, facts in possible_books(many, 20)[::4 if many == 5 else 1]:
                book = Book(places, facts)
                chance.shuffle(lots)
                tree = full_tree(lots)
                for claim in claims_on(places)[::37 if many == 5 else 5]:
                    self.assertIs(shows(book, claim, tree), kept(places, facts) <= where(places, claim))
                self.assertIs(is_quarrel(book, tree), False)
            for places, facts in quarrels(many, 10):
                self.assertIs(is_quarrel(Book(places, facts), full_tree(lots)), True)

    def test_an_end_alone(self):
        self.assertIs(shows(Book(FOUR), ("all", ()), ()), True)
        self.assertIs(shows(Book(FOUR), ABC, ()), False)
        self.assertIs(shows(Book(FOUR, [ABC]), ABC, ()), False)
        self.assertIs(shows(Book(FOUR, [NEVER]), ABC, ()), True)
        self.assertIs(is_quarrel(Book(FOUR, [NEVER]), ()), True)
        self.assertIs(is_quarrel(Book(FOUR, [ABC, NEVER]), ()), True)
        self.assertIs(is_quarrel(Book(FOUR), ()), False)

    def test_which_tree_is_for_true(self):
        self.assertIs(shows(Book(THREE, [ABC]), ABC, CASE), True)
        book = Book(FOUR, [ABC])
        other = ("a", "b", "d")
        self.assertIs(shows(book, ABC, (LOT, (), (other, (), ()))), True)
        claim = ("some", (("not", ABC), ("all", (ABC, ("left", *other))), ("all", (ABC, ("left", "b", "a", "d")))))
        self.assertIs(shows(Book(FOUR), claim, (LOT, (other, (), ()), ())), True)
        self.assertIs(shows(Book(FOUR), claim, (LOT, (), (other, (), ()))), False)

    def test_a_three_that_is_known_already(self):
        for deep in (1, 2, 3, 9):
            tree = CASE
            for _ in range(deep):
                tree = (LOT, tree, tree)
            self.assertIs(shows(Book(THREE, [ABC]), ABC, tree), True)
            self.assertIs(shows(Book(THREE), ABC, tree), False)

    def test_a_three_that_follows_cannot_be_the_other_way(self):
        book = Book(FOUR, [("left", *turn) for turn in ("abd", "bcd", "cad")])
        self.assertIs(shows(book, ABC, ()), False)
        # Where the facts are so, a, b, c is closed to True: below it being False all is empty.
        inner = (LOT, (), (("a", "b", "d"), (), ()))
        by_facts = (("a", "b", "d"), (("b", "c", "d"), (("a", "c", "d"), (), inner), ()), ())
        self.assertIs(shows(book, ABC, by_facts), True)
        self.assertIs(shows(Book(FOUR), ABC, by_facts), False)
        self.assertIs(shows(book, ("left", "b", "a", "c"), by_facts), False)

    def test_books_that_are_not_possible(self):
        for many in (3, 4, 5):
            for places, facts in quarrels(many, 10):
                book = Book(places, facts)
                tree = full_tree(lots_on(many))
                for claim in claims_on(places)[::41]:
                    self.assertIs(shows(book, claim, tree), True)
                    self.assertIs(shows(book, claim, ()), is_shown(places, facts, claim, ()))

    def test_by_name(self):
        book = Book(THREE, [ABC])
        self.assertIs(shows(thing=CASE, claim=ABC, book=book), True)
        self.assertIs(shows(book=book, thing=(), claim=ABC), False)
        self.assertIs(is_quarrel(thing=CASE, book=Book(THREE, [ABC, ("not", ABC)])), True)
        self.assertIs(is_quarrel(thing=(), book=Book(THREE, [ABC, ("not", ABC)])), False)

    def test_no_claims_are_told_ahead(self):
        for value in wrong_claims():
            for tree in ((), CASE, None, [()]):
                self.assertIs(self.refused(BadClaim, shows, Book(FOUR), value, tree).value, value)
                self.assertIs(self.refused(BadClaim, shows, Book(FOUR, [NEVER]), value, tree).value, value)
        self.refuses(BadClaim, ("left", "a", "b", "d"), lambda claim: shows(Book(THREE), claim, ()))


class FormTest(Case):
    """Trees of a book of which every end is shut: only the form of a tree counts."""

    book = Book(FOUR, [NEVER])

    def assert_form(self, thing, is_tree):
        self.assertIs(is_quarrel(self.book, thing), is_tree)
        self.assertIs(shows(self.book, ABC, thing), is_tree)

    def test_2000_ends_and_more(self):
        for ends in (1, 2, 3, 1000, 1999, 2000):
            self.assertEqual(ends_in(tree_with(LOT, ends)), ends)
            self.assert_form(tree_with(LOT, ends), True)
        for ends in (2001, 2002, 2500, 4096):
            self.assert_form(tree_with(LOT, ends), False)
        even = full_tree(FOUR_LOTS + FOUR_LOTS[::-1] + FOUR_LOTS)
        self.assertEqual(ends_in(even), 4096)
        self.assert_form(even, False)
        self.assert_form((LOT, tree_with(LOT, 1999), ()), True)
        self.assert_form((LOT, (), tree_with(LOT, 2000)), False)

    def test_2000_ends_that_hold_without_such_a_fact(self):
        for ends, found in ((2000, True), (2001, False)):
            self.assertIs(shows(Book(THREE, [ABC]), ABC, (LOT, tree_with(LOT, ends - 1), ())), found)
            self.assertIs(shows(Book(THREE), ("all", ()), tree_with(LOT, ends)), found)

    def test_99_cases_one_within_another_and_more(self):
        for cases in (1, 50, 98, 99):
            self.assert_form(chain_of(LOT, cases), True)
        for cases in (100, 101, 102, 150, 300):
            self.assert_form(chain_of(LOT, cases), False)
        self.assertIs(shows(Book(THREE, [ABC]), ABC, (LOT, chain_of(LOT, 98), ())), True)
        self.assertIs(shows(Book(THREE, [ABC]), ABC, (LOT, chain_of(LOT, 99), ())), False)
        self.assertIs(shows(Book(THREE, [ABC]), ABC, (LOT, (), chain_of(LOT, 99))), False)

    def test_deep_and_with_many_ends(self):
        tree = tree_with(LOT, 1900)
        for number in range(88):
            tree = (FOUR_LOTS[number % 4], tree, ())
        self.assertEqual(ends_in(tree), 1988)
        self.assert_form(tree, True)

    def test_things_that_are_no_tree_far_within(self):
        for cases in (1, 50, 98):
            for thing in (None, [], ((),), LOT, (LOT,), (LOT, ()), [LOT, (), ()]):
                tree = thing
                for number in range(cases):
                    tree = (LOT, tree, ()) if number & 1 else (LOT, (), tree)
                self.assert_form(tree, False)

    def test_below_what_is_empty_the_form_counts_too(self):
        known = (LOT, (LOT, (), None), ())
        self.assertIs(shows(Book(THREE), ("all", ()), known), False)
        self.assertIs(shows(Book(THREE), ("all", ()), (LOT, (LOT, (), (LOT, (), ("x",))), ())), False)
        self.assertIs(shows(Book(THREE), ("all", ()), (LOT, (LOT, (), CASE), ())), True)

    def test_threes(self):
        for order in itertools.product(FOUR, repeat=3):
            self.assert_form((order, (), ()), list(order) == sorted(set(order)))
        wrong = [
            ("a", "b"), ("a", "b", "c", "d"), (), "abc", ["a", "b", "c"], {"a", "b", "c"}, ("a", "b", "e"), None, True,
            ("left", "a", "b", "c"), (LOT,), ("a", "b", ("c",)), ("a", "b", None), ("a", "b", ["c"]), mock.ANY,
            (mock.ANY, "b", "c"), ("a", "b", mock.ANY), {}, 3, ("A", "b", "c"),
        ]
        for value in wrong + wrong_values():
            self.assert_form((value, (), ()), False)
            self.assert_form((LOT, (value, (), ()), ()), False)

    def test_things_of_any_kind(self):
        wrong = [
            None, True, False, 0, "", "()", b"", [], {}, set(), frozenset(), object(), mock.ANY, LOT, (LOT,), (LOT, ()),
            (LOT, (), (), ()), [LOT, (), ()], (LOT, [], ()), (LOT, (), []), (LOT, None, ()), (LOT, (), None), ((),),
            ((), ()), ((), (), ()), (LOT, ((),), ()), (LOT, (), ((),)), {LOT: ()}, (LOT, mock.ANY, ()), (LOT, "", ()),
            (LOT, (), mock.ANY), iter(()), range(0), ("tree", ()), ("tree", CASE), (CASE,), (LOT, {}, {}),
            (LOT, False, ()), (LOT, LOT, LOT), (LOT, (LOT,), (LOT,)), ((), LOT, ()), ((), (), LOT),
        ]
        for value in wrong + wrong_values():
            if value is not mock.ANY:
                self.assertNotEqual(value, ())
            self.assert_form(value, False)
            self.assert_form((LOT, value, ()), False)
            self.assert_form((LOT, (), value), False)

    def test_trees_of_other_places(self):
        self.assertIs(is_quarrel(Book(THREE, [NEVER]), CASE), True)
        self.assertIs(is_quarrel(Book(THREE, [NEVER]), (("a", "b", "d"), (), ())), False)
        self.assertIs(is_quarrel(Book(WORDS, [NEVER]), CASE), False)


if __name__ == "__main__":
    unittest.main()
