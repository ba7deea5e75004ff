"""Point [20] and the interface of leftmaps/books.py."""

import operator
import unittest
from unittest import mock

from leftmaps import books
from leftmaps.books import Book
from leftmaps.errors import BadFacts, BadNumber, BadPlaces
from leftmaps.maps import Map, all_maps
from tests.booked import is_so, possible_books, quarrels, told_maps
from tests.case import Case
from tests.claimed import ABC, BAD_PLACES, FIVE, FOUR, THREE, alls, claims_on, nots, wide, wrong_claims
from tests.plain import all_placed
from tests.samples import WORDS, wrong_values

NOT_ABC = ("not", ABC)
TWELVE = [("not", ABC), ("all", ()), *[("left", *order) for order in ("abd", "bda", "dab", "acd", "cda", "dac")],
          ("some", ()), ABC, ABC, ("all", (ABC,))]
NO_NUMBERS = [-1, -12, 12, 13, 10 ** 999, -10 ** 999, True, False, None, "0", "", b"0", (0,), [0], {0}, {0: 0}, (), [],
              slice(0, 1), slice(None), Ellipsis, object(), mock.ANY, range(1), int, len]


class NewBookTest(Case):

    def test_fields(self):
        for facts in ([], (), [ABC], (ABC,), [ABC, NOT_ABC, ABC], TWELVE, tuple(TWELVE)):
            book = Book(FOUR, facts)
            self.assertEqual(book.places, FOUR)
            self.assertEqual(book.facts, tuple(facts))
            self.assertIs(book.facts.__class__, tuple)
            self.assertEqual(Book(facts=facts, places=FOUR), book)
            self.assertEqual(len(book), len(facts))

    def test_without_facts(self):
        for places in (THREE, FOUR, FIVE, WORDS):
            self.assertEqual(Book(places).facts, ())
            self.assertEqual(Book(places=places), Book(places, []))
            self.assertEqual(len(Book(places)), 0)

    def test_the_most_facts(self):
        self.assertEqual(books.MOST_FACTS, 12)
        self.assertIs(books.MOST_FACTS.__class__, int)
        self.assertEqual(len(TWELVE), 12)

    def test_facts_may_stand_twice_and_contradict_one_another(self):
        self.assertEqual(Book(THREE, (ABC, ABC, NOT_ABC)).facts, (ABC, ABC, NOT_ABC))

    def test_later_changes_have_no_effect(self):
        facts = [ABC, NOT_ABC]
        book = Book(FOUR, facts)
        facts[0] = ("all", ())
        facts.append(ABC)
        self.assertEqual(book.facts, (ABC, NOT_ABC))
        self.assertEqual(book, Book(FOUR, [ABC, NOT_ABC]))

    def test_the_list_stays_as_it_was(self):
        facts = [ABC, "x", ABC]
        self.refused(BadFacts, Book, FOUR, facts)
        self.assertEqual(facts, [ABC, "x", ABC])
        facts = list(TWELVE)
        Book(FOUR, facts).without(3)
        self.assertEqual(facts, TWELVE)

    def test_bad_places_are_told_ahead(self):
        for value in wrong_values() + BAD_PLACES:
            for facts in ((), None, [ABC], [None], [ABC] * 13):
                self.assertIs(self.refused(BadPlaces, Book, value, facts).value, value)
            self.refuses(BadPlaces, value, Book)

    def test_no_list_or_tuple_of_at_most_12(self):
        wrong = [
            None, True, 0, "", "left", {}, {ABC}, {ABC: 1}, frozenset([ABC]), iter([ABC]), range(3), object(), mock.ANY,
            [ABC] * 13, (ABC,) * 13, [None] * 13, [ABC] * 20000, (ABC for _ in range(3)), b"", len,
        ]
        for value in wrong:
            self.assertIs(self.refused(BadFacts, Book, FOUR, value).number, None)

    def test_the_first_item_that_is_no_claim(self):
        for value in wrong_claims():
            for number in (0, 1, 11):
                for made in (list, tuple):
                    facts = made([ABC] * number + [value] + [ABC] * (11 - number))
                    told = self.refused(BadFacts, Book, FOUR, facts).number
                    self.assertEqual(told, number)
                    self.assertIs(told.__class__, int)
        self.assertEqual(self.refused(BadFacts, Book, FOUR, [ABC, ABC, None, [], ABC, "x"]).number, 2)

    def test_a_list_is_no_claim_but_may_hold_facts(self):
        self.assertEqual(self.refused(BadFacts, Book, THREE, ABC).number, 0)
        self.assertEqual(self.refused(BadFacts, Book, THREE, list(ABC)).number, 0)
        self.assertEqual(self.refused(BadFacts, Book, THREE, [list(ABC)]).number, 0)

    def test_claims_of_other_places(self):
        self.assertEqual(self.refused(BadFacts, Book, THREE, [ABC, ("left", "a", "b", "d")]).number, 1)
        self.assertEqual(len(Book(FOUR, [ABC, ("left", "a", "b", "d")])), 2)

    def test_the_deepest_and_the_widest_claims(self):
        Book(THREE, (nots(8), alls(8), wide(300)) * 4)
        for claim in (nots(9), alls(9), wide(301)):
            self.assertEqual(self.refused(BadFacts, Book, THREE, [nots(8), claim]).number, 1)


class FactTest(Case):

    def test_each_fact_by_its_number(self):
        book = Book(FOUR, TWELVE)
        for number in range(12):
            self.assertIs(book[number], TWELVE[number])

    def test_no_numbers(self):
        for facts in ((), (ABC,), TWELVE):
            book = Book(FOUR, facts)
            for value in [len(facts), len(facts) + 1, -len(facts) - 1, *NO_NUMBERS, *wrong_values()]:
                if isinstance(value, bool) or not isinstance(value, int) or not 0 <= value < len(book):
                    self.assertIs(self.refused(BadNumber, operator.getitem, book, value).value, value)
                    self.assertIs(self.refused(BadNumber, book.without, value).value, value)

    def test_without_each_number(self):
        book = Book(FOUR, TWELVE)
        for number in range(12):
            self.assertEqual(book.without(number), Book(FOUR, TWELVE[:number] + TWELVE[number + 1:]))
            self.assertEqual(book.without(number=number).places, FOUR)
        self.assertEqual(book.facts, tuple(TWELVE))
        self.assertEqual(Book(THREE, [ABC]).without(0), Book(THREE))

    def test_adding(self):
        book = Book(FOUR)
        for number, fact in enumerate(TWELVE):
            further = book.adding(claim=fact)
            self.assertEqual(len(book), number)
            self.assertEqual(further.facts, tuple(TWELVE[:number + 1]))
            self.assertEqual(further.places, FOUR)
            book = further
        self.assertEqual(book, Book(FOUR, TWELVE))

    def test_adding_no_claim(self):
        for facts in ((), (ABC,), TWELVE[:11], TWELVE):
            book = Book(FOUR, facts)
            for value in wrong_claims():
                self.assertEqual(self.refused(BadFacts, book.adding, value).number, len(facts))
            self.assertEqual(book.facts, tuple(facts))
        self.assertEqual(self.refused(BadFacts, Book(THREE, [ABC]).adding, ("left", "a", "b", "d")).number, 1)

    def test_adding_to_a_full_book(self):
        book = Book(FOUR, TWELVE)
        for claim in (ABC, ("all", ()), nots(8), wide(300)):
            self.assertIs(self.refused(BadFacts, book.adding, claim).number, None)
        self.assertEqual(book, Book(FOUR, TWELVE))


class KeepsTest(Case):

    def test_every_map_of_good_many_books(self):
        for many in (3, 4, 5):
            maps = all_maps(WORDS[:many])
            for places, facts in possible_books(many, 40) + quarrels(many, 20):
                book = Book(places, facts)
                for chart, told_of in zip(maps, told_maps(places)):
                    self.assertIs(book.keeps(chart), all(is_so(told_of, fact) for fact in facts))

    def test_a_map_that_is_equal_but_another_object(self):
        book = Book(THREE, [ABC])
        self.assertIs(book.keeps(Map(THREE, [True])), True)
        self.assertIs(book.keeps(chart=Map(("a", "b", "c"), (True,))), True)
        self.assertIs(book.keeps(Map(THREE, [False])), False)

    def test_maps_of_other_places(self):
        for chart, _ in all_placed()[::9]:
            for places in (THREE, FOUR, FIVE, WORDS[1:], WORDS[1:4], WORDS[:4]):
                self.assertIs(Book(places).keeps(chart), places == chart.places)
        self.assertIs(Book(THREE, [ABC]).keeps(Map(FOUR, [True] * 4)), False)
        self.assertIs(Book(FOUR, [ABC]).keeps(Map(THREE, [True])), False)

    def test_things_that_are_no_map(self):
        for book in (Book(THREE), Book(THREE, [ABC]), Book(WORDS)):
            for value in [*wrong_values(), THREE, (True,), (THREE, (True,)), book, mock.ANY, Map]:
                self.assertIs(book.keeps(value), False)


class EqualTest(Case):

    def test_equal_by_both_fields(self):
        one = Book(THREE, [ABC, NOT_ABC])
        self.assertTrue(one == Book(THREE, (ABC, NOT_ABC)))
        self.assertFalse(one != Book(THREE, (ABC, NOT_ABC)))
        for other in (Book(THREE, [NOT_ABC, ABC]), Book(THREE, [ABC]), Book(THREE), Book(FOUR, [ABC, NOT_ABC]),
                      Book(THREE, [ABC, NOT_ABC, ABC]), Book(THREE, [ABC, ("left", "b", "a", "c")])):
            self.assertIs(one == other, False)
            self.assertIs(one != other, True)

    def test_alike_is_not_equal(self):
        self.assertIs(Book(THREE, [ABC]) == Book(THREE, [("left", "b", "c", "a")]), False)

    def test_beside_other_values(self):
        book = Book(THREE, [ABC])
        for value in [*wrong_values(), THREE, (ABC,), (THREE, (ABC,)), Map(THREE, [True]), [ABC], {0: ABC}]:
            self.assertIs(book == value, False)
            self.assertIs(value == book, False)
            self.assertIs(book != value, True)
            self.assertIs(value != book, True)

    def test_other_operators(self):
        self.has_no_operators(Book(THREE, [ABC]), [Book(THREE), Book(THREE, [ABC]), Map(THREE, [True])])

    def test_no_iterating_and_no_in(self):
        for book in (Book(THREE), Book(THREE, [ABC]), Book(FOUR, TWELVE)):
            for function in (iter, list, tuple, set, sorted, dict, enumerate):
                with self.assertRaises(TypeError):
                    function(book)
            with self.assertRaises(TypeError):
                for _ in book:
                    pass
            with self.assertRaises(TypeError):
                print(*book)
            for value in (ABC, "a", True, None, 0, book):
                with self.assertRaises(TypeError):
                    value in book

    def test_books_never_change(self):
        book = Book(FOUR, TWELVE)
        book.without(0).adding(ABC)
        book.keeps(Map(FOUR, [True] * 4))
        self.refused(BadFacts, book.adding, ABC)
        with self.assertRaises(TypeError):
            book[0] = ABC
        with self.assertRaises(TypeError):
            del book[0]
        self.assertEqual((book.places, book.facts), (FOUR, tuple(TWELVE)))

    def test_facts_of_each_sort_are_kept_as_they_are(self):
        for claim in claims_on(FOUR):
            self.assertIs(Book(FOUR, [claim])[0], claim)


if __name__ == "__main__":
    unittest.main()
