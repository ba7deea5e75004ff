"""Points [24] to [26] and the interface of leftmaps/facts.py."""

import itertools
import random
import unittest

from leftmaps.books import Book
from leftmaps.errors import BadClaim, BadPlaces, Quarrel
from leftmaps.facts import alike, least_facts, needless, parted
from leftmaps.trees import is_quarrel
from leftmaps.verdicts import follows, possible
from tests.booked import NEVER, is_so, kept, negated, possible_books, quarrels, told_maps, where
from tests.case import Case
from tests.claimed import ABC, FOUR, THREE, claims_on, is_so_at, wrong_claims
from tests.samples import WORDS

D_WITHIN = tuple(("left", *turn) for turn in ("abd", "bcd", "cad"))
ALL = ("all", ())
NO_ABC = ("left", "b", "a", "c")


def with_looser(places, facts):
    """The facts with further ones behind them, each of which follows from one of them or from two."""
    further = [("some", (fact, ("left", *places[:3]))) for fact in facts[:3]] + [("all", facts[1:3])]
    return (*facts, *further)[:12]


def lists_for(places, facts, claim):
    """The least lists of facts by the words of [25]."""
    rows = [row for many in range(len(facts) + 1) for row in itertools.combinations(range(len(facts)), many)]
    enough = {row for row in rows if kept(places, [facts[number] for number in row]) <= where(places, claim)}
    return tuple(sorted(row for row in enough if not any(row[:n] + row[n + 1:] in enough for n in range(len(row)))))


class NeedlessTest(Case):

    def test_each_fact_by_itself(self):
        told = set()
        for many in (3, 4, 5):
            for places, facts in possible_books(many, 60):
                for listed in (facts, with_looser(places, facts)):
                    plain = tuple(n for n in range(len(listed)) if kept(places, listed) == kept(
                        places, listed[:n] + listed[n + 1:]))
                    book = Book(places, listed)
                    self.assertEqual(needless(book), plain)
                    self.assertEqual(plain, tuple(n for n in range(len(book)) if follows(book.without(n), book[n])))
                    told.update(plain)
        self.assertEqual(told, set(range(12)))

    def test_facts_that_stand_twice(self):
        self.assertEqual(needless(Book(THREE, [ABC, ABC])), (0, 1))
        self.assertEqual(needless(Book(THREE, [ABC])), ())
        self.assertEqual(needless(Book(THREE, [ABC, ("left", "b", "c", "a")])), (0, 1))
        self.assertEqual(needless(Book(FOUR, [ABC, ("left", "a", "b", "d"), ABC])), (0, 2))
        self.assertEqual(needless(Book(THREE, [ABC] * 12)), tuple(range(12)))

    def test_written_out(self):
        self.assertEqual(needless(Book(THREE)), ())
        self.assertEqual(needless(Book(THREE, [ALL])), (0,))
        self.assertEqual(needless(book=Book(FOUR, [*D_WITHIN, ABC])), (3,))
        self.assertEqual(needless(Book(FOUR, D_WITHIN)), ())

    def test_books_in_quarrel(self):
        for many in (3, 4, 5):
            for places, facts in quarrels(many, 20):
                book = Book(places, facts)
                self.assertIs(is_quarrel(book, self.refused(Quarrel, needless, book).tree), True)


class LeastFactsTest(Case):

    def test_against_all_lists_of_facts(self):
        sizes = set()
        for many in (3, 4, 5):
            for number, (places, facts) in enumerate(possible_books(many, 40)):
                listed = with_looser(places, facts)[:8] if len(facts) < 8 else facts[:8]
                for claim in claims_on(places)[number % 19::19]:
                    found = least_facts(Book(places, listed), claim)
                    self.assertEqual(found, lists_for(places, listed, claim))
                    sizes.update(map(len, found))
        self.assertTrue({0, 1, 2, 3} <= sizes, sizes)

    def test_of_twelve_facts(self):
        chance = random.Random(12)
        told_of = told_maps(WORDS)[100]
        lots = chance.sample(list(itertools.permutations(WORDS, 3)), 12)
        facts = [("left", *lot) if told_of[lot] else ("not", ("left", *lot)) for lot in lots]
        claims = [claim for claim in claims_on(WORDS) if is_so(told_of, claim)]
        for claim in claims[::30]:
            self.assertEqual(least_facts(Book(WORDS, facts), claim), lists_for(WORDS, facts, claim))

    def test_they_ascend_as_tuples_do(self):
        facts = [("left", *turn) for turn in ("abd", "abc", "bcd", "bca", "cad")]
        self.assertEqual(least_facts(Book(FOUR, facts), ABC), ((0, 2, 4), (1,), (3,)))
        self.assertEqual(least_facts(claim=ABC, book=Book(FOUR, facts[::-1])), ((0, 2, 4), (1,), (3,)))

    def test_what_follows_without_facts(self):
        for facts in ((), (ABC,), (ABC, ABC), D_WITHIN):
            for claim in (ALL, ("some", (ABC, NO_ABC)), ("not", NEVER)):
                self.assertEqual(least_facts(Book(FOUR, facts), claim), ((),))

    def test_what_does_not_follow(self):
        for facts in ((), (ABC,), D_WITHIN):
            for claim in (NEVER, NO_ABC, ("left", "d", "b", "a")):
                self.assertEqual(least_facts(Book(FOUR, facts), claim), ())

    def test_facts_that_stand_twice(self):
        self.assertEqual(least_facts(Book(THREE, [ABC, ABC, ("left", "c", "a", "b")]), ABC), ((0,), (1,), (2,)))
        self.assertEqual(least_facts(Book(THREE, [ABC] * 12), ABC), tuple((number,) for number in range(12)))

    def test_a_fact_that_counts_only_as_the_twelfth(self):
        facts = [ALL] * 9 + [D_WITHIN[1], D_WITHIN[2], D_WITHIN[0]]
        self.assertEqual(least_facts(Book(FOUR, facts), ABC), ((9, 10, 11),))
        self.assertEqual(least_facts(Book(FOUR, [ALL] * 11 + [ABC]), ABC), ((11,),))
        self.assertEqual(needless(Book(FOUR, [ALL] * 11 + [ABC])), tuple(range(11)))

    def test_no_claims_are_told_ahead_of_a_quarrel(self):
        for value in wrong_claims():
            for facts in ((), (NEVER,)):
                self.refuses(BadClaim, value, least_facts, Book(FOUR, facts))
        for many in (3, 4, 5):
            for places, facts in quarrels(many, 20):
                book = Book(places, facts)
                for claim in (ALL, NEVER, ("left", *places[:3])):
                    self.assertIs(is_quarrel(book, self.refused(Quarrel, least_facts, book, claim).tree), True)


class AlikeTest(Case):

    def assert_parted(self, places, one, other):
        """Fails if two books, told by their facts, are not told apart as the maps that keep them are; returns which."""
        first, second = kept(places, one), kept(places, other)
        books = (Book(places, one), Book(places, other))
        self.assertIs(alike(*books), first == second)
        found = parted(*books)
        if first == second:
            self.assertIsNone(found)
            return None
        self.assertIs(found.__class__, tuple)
        number, spots = found
        self.assertIs(number.__class__, int)
        self.assertIs(spots.__class__, tuple)
        self.assertEqual(tuple(spot[0] for spot in spots), places)
        at = {place: (x, y) for place, x, y in spots}
        keeps = [all(is_so_at(at, fact) for fact in facts) for facts in (one, other)]
        self.assertEqual(keeps, [number == 0, number == 1])
        return number

    def test_facts_in_another_order_doubled_left_out_exchanged(self):
        told = []
        for many in (3, 4, 5):
            for places, facts in possible_books(many, 60):
                told.append(self.assert_parted(places, facts, facts[::-1]))
                self.assertIsNone(told[-1])
                self.assertIsNone(self.assert_parted(places, facts, (facts + facts)[:12]))
                for n in range(len(facts)):
                    told.append(self.assert_parted(places, facts, facts[:n] + facts[n + 1:]))
                    told.append(self.assert_parted(places, facts[:n] + facts[n + 1:], facts))
                    other = facts[:n] + (negated(facts[n]),) + facts[n + 1:]
                    if kept(places, other):
                        self.assertEqual(self.assert_parted(places, facts, other), 0)
                        self.assertEqual(self.assert_parted(places, other, facts), 0)
        self.assertEqual({number: number in told for number in (None, 0, 1)}, {None: True, 0: True, 1: True})

    def test_each_two_of_some_books(self):
        told = []
        for many in (3, 4, 5):
            books = possible_books(many, 20)
            for (places, one), (_, other) in itertools.product(books, repeat=2):
                told.append(self.assert_parted(places, one, other))
        self.assertGreater(min(told.count(number) for number in (None, 0, 1)), 40)

    def test_written_out(self):
        self.assertIs(alike(Book(THREE, [ABC]), Book(THREE, [("left", "b", "c", "a")])), True)
        self.assertIs(alike(other=Book(THREE, [ABC]), one=Book(THREE)), False)
        self.assertIsNone(parted(Book(FOUR, D_WITHIN), Book(FOUR, [*D_WITHIN, ABC])))
        self.assertEqual(parted(other=Book(THREE, [ABC]), one=Book(THREE))[0], 0)
        self.assertEqual(parted(one=Book(THREE, [ABC]), other=Book(THREE))[0], 1)
        self.assertEqual(parted(Book(THREE, [ABC]), Book(THREE, [NO_ABC]))[0], 0)

    def test_books_of_other_places(self):
        books = [Book(places, facts) for places in (THREE, FOUR, WORDS, ("a", "b", "d")) for facts in ((), (NEVER,))]
        for one, other in itertools.product(books, repeat=2):
            if one.places != other.places:
                self.assertEqual(self.refused(BadPlaces, alike, one, other).value, other.places)
                self.assertEqual(self.refused(BadPlaces, parted, one, other).value, other.places)

    def test_one_or_both_in_quarrel(self):
        for many in (3, 4, 5):
            good = [Book(*book) for book in possible_books(many, 5)]
            bad = [Book(*book) for book in quarrels(many, 10)]
            for function in (alike, parted):
                for one, other in itertools.product(good, bad):
                    self.assertIs(is_quarrel(other, self.refused(Quarrel, function, one, other).tree), True)
                    self.assertIs(is_quarrel(other, self.refused(Quarrel, function, other, one).tree), True)

    def test_of_both_the_first_one(self):
        one = Book(FOUR, [NEVER])
        other = Book(FOUR, [ABC, NO_ABC, D_WITHIN[0]])
        for function in (alike, parted):
            # Of the second book () is no quarrel, of the first one it is.
            self.assertIs(is_quarrel(other, self.refused(Quarrel, function, other, one).tree), True)
            self.assertIs(is_quarrel(other, ()), False)
            self.assertEqual(self.refused(Quarrel, function, one, other).tree, possible(one)[1])


if __name__ == "__main__":
    unittest.main()
