"""Points [13], [25] and the interface of leftmaps/questions.py."""

import functools
import itertools
import unittest
from unittest import mock

from leftmaps.books import Book
from leftmaps.claims import at_border, is_cut
from leftmaps.errors import BadClaim, Quarrel, TooMany
from leftmaps.questions import fewest, is_plan, next_question, plan, sure_places
from leftmaps.trees import is_quarrel
from tests.booked import NEVER, NO_MAPS, kept, negated, possible_books, quarrels, told_maps, where
from tests.case import Case
from tests.claimed import ABC, FOUR, THREE, claims_on, wrong_claims
from tests.plain import border_at, placed
from tests.samples import WORDS, wrong_values

LOT = ("a", "b", "c")
ASK = (LOT, (), ())
ABD, ACD, BCD = ("a", "b", "d"), ("a", "c", "d"), ("b", "c", "d")


def parts_at(places, left, three):
    """The maps left in which a three is True, and those in which it is False."""
    part = left & true_in(places, three)
    return part, left - part


@functools.cache
def true_in(places, three):
    """The maps in which a three is True."""
    return frozenset(number for number, told_of in enumerate(told_maps(places)) if told_of[three])


def partings(places, left):
    """The threes that part the maps left, with both parts."""
    found = [(three, parts_at(places, left, three)) for three in itertools.combinations(places, 3)]
    return [(three, parts) for three, parts in found if all(parts)]


def fewest_at(places, left, claim):
    """The fewest questions by the words of [25]."""
    return fewest_to_part(places, left, left & where(places, claim))


@functools.cache
def fewest_to_part(places, left, held):
    """The fewest questions that part the maps left into such of which a claim holds and such of which it does not."""
    if held in (left, NO_MAPS):
        return 0
    worst = [max(fewest_to_part(places, part, part & held) for part in parts) for _, parts in partings(places, left)]
    return 1 + min(worst)


def worst_of(places, left, claim, thing):
    """The most questions that a plan asks; None if it is no plan by its form, or asks what it need not."""
    if left <= where(places, claim) or not left & where(places, claim):
        return 0 if thing == () else None
    if not isinstance(thing, tuple) or len(thing) != 3 or thing[0] not in dict(partings(places, left)):
        return None
    parts = zip(parts_at(places, left, thing[0]), thing[1:])
    both = [worst_of(places, part, claim, further) for part, further in parts]
    return None if None in both else 1 + max(both)


def told_only_of(places, number):
    """A claim that holds of all maps but the one with this number."""
    told_of = told_maps(places)[number]
    atoms = [("left", *lot) for lot in itertools.combinations(places, 3)]
    return ("some", tuple(("not", atom) if told_of[atom[1:]] else atom for atom in atoms))


def facts_that_leave(many):
    """Facts on five places that just so many maps keep."""
    facts = [("left", *lot) for lot in itertools.combinations(WORDS, 3)][:2]
    while len(kept(WORDS, facts)) > many:
        left = sorted(kept(WORDS, facts))
        barred = left[:min(12, len(left) - many)]
        facts.append(("all", tuple(told_only_of(WORDS, number) for number in barred)))
    return tuple(facts)


def small_books():
    """Books of three, four and five places that at most 40 maps keep."""
    books = possible_books(3, 12) + possible_books(4, 26) + possible_books(5, 120)[3:]
    return [(places, facts) for places, facts in books if len(kept(places, facts)) <= 40]


def asked_claims(places):
    """Claims of each sort, and such as tell what looks tell, which take more questions."""
    looks = [at_border(places, place) for place in places] + [is_cut(places, places[:2]), is_cut(places, places[1:3])]
    return claims_on(places) + looks


class NextQuestionTest(Case):

    def test_good_many_books(self):
        told = set()
        for many in (3, 4, 5):
            for places, facts in possible_books(many, 100):
                left = kept(places, facts)
                found = partings(places, left)
                plain = min(found, key=lambda parting: max(map(len, parting[1])))[0] if found else None
                self.assertEqual(next_question(Book(places, facts)), plain)
                self.assertIs(plain is None, len(left) == 1)
                told.add(plain)
        self.assertGreater(len(told), 8)

    def test_of_equal_ones_the_first(self):
        for many in (3, 4, 5):
            self.assertEqual(next_question(Book(WORDS[:many])), WORDS[:3])
        self.assertEqual(next_question(book=Book(FOUR, [ABC])), ABD)

    def test_one_map_left(self):
        self.assertIsNone(next_question(Book(THREE, [ABC])))
        self.assertIsNone(next_question(Book(FOUR, [("left", *turn) for turn in ("abd", "bcd", "cad")])))

    def test_books_in_quarrel(self):
        for many in (3, 4, 5):
            for places, facts in quarrels(many, 20):
                book = Book(places, facts)
                self.assertIs(is_quarrel(book, self.refused(Quarrel, next_question, book).tree), True)


class FewestTest(Case):

    def test_good_many_books_and_claims(self):
        told = set()
        for places, facts in small_books():
            book = Book(places, facts)
            for claim in asked_claims(places)[::-7]:
                found = fewest(book, claim)
                self.assertEqual(found, fewest_at(places, kept(places, facts), claim))
                self.assertIs(found.__class__, int)
                told.add(found)
        self.assertTrue({0, 1, 2, 3, 4} <= told, told)

    def test_settled_ones(self):
        for places, facts in small_books()[::4]:
            book = Book(places, facts)
            for claim in (("all", ()), NEVER, *facts, *map(negated, facts)):
                self.assertEqual(fewest(book, claim), 0)
                self.assertEqual(plan(book, claim), ())

    def test_written_out(self):
        self.assertEqual(fewest(Book(THREE), ABC), 1)
        self.assertEqual(fewest(claim=ABC, book=Book(FOUR)), 1)
        self.assertEqual(fewest(Book(FOUR), ("all", (ABC, ("left", "a", "b", "d")))), 2)
        self.assertEqual(plan(Book(THREE), ABC), ASK)
        self.assertEqual(plan(Book(FOUR), ("left", "c", "b", "d")), (BCD, (), ()))
        self.assertEqual(plan(claim=ABC, book=Book(FOUR)), ASK)

    def test_40_maps_left_and_41(self):
        claims = [("all", ()), NEVER, ("left", *WORDS[1:4]), ("some", (("left", *WORDS[1:4]), ("left", *WORDS[2:])))]
        for many in (39, 40):
            facts = facts_that_leave(many)
            left = kept(WORDS, facts)
            self.assertEqual(len(left), many)
            for claim in claims:
                book = Book(WORDS, facts)
                self.assertEqual(fewest(book, claim), fewest_at(WORDS, left, claim))
                self.assertEqual(worst_of(WORDS, left, claim, plan(book, claim)), fewest(book, claim))
                self.assertIs(is_plan(book, claim, plan(book, claim)), True)
        for facts in (facts_that_leave(41), facts_that_leave(60), ()):
            book = Book(WORDS, facts)
            for claim in [*claims, *facts]:
                for told in (
                        self.refused(TooMany, fewest, book, claim), self.refused(TooMany, plan, book, claim),
                        self.refused(TooMany, is_plan, book, claim, ()),
                        self.refused(TooMany, is_plan, book, claim, None)):
                    self.assertEqual(told.most, 40)
                    self.assertIs(told.most.__class__, int)


class PlanTest(Case):

    def test_good_many_books_and_claims(self):
        for number, (places, facts) in enumerate(small_books()):
            book = Book(places, facts)
            left = kept(places, facts)
            for claim in asked_claims(places)[::-17]:
                found = plan(book, claim)
                self.assertEqual(worst_of(places, left, claim, found), fewest_at(places, left, claim))
                self.assertIs(is_plan(book, claim, found), True)
                for thing in near_plans(places, found)[number % 11::11]:
                    plain = worst_of(places, left, claim, thing) == fewest_at(places, left, claim)
                    self.assertIs(is_plan(book, claim, thing), plain)

    def test_all_plans_of_four_places(self):
        claim = ("all", (ABC, ("left", "a", "b", "d")))
        for facts in ((), (("left", "b", "c", "d"),)):
            book = Book(FOUR, facts)
            told = {True: 0, False: 0}
            for thing in all_plans(2):
                plain = worst_of(FOUR, kept(FOUR, facts), claim, thing) == 2
                self.assertIs(is_plan(book, claim, thing), plain)
                told[plain] += 1
            self.assertGreater(min(told.values()), 1)

    def test_a_question_too_many(self):
        self.assertIs(is_plan(Book(THREE), ABC, ASK), True)
        for thing in ((LOT, ASK, ()), (LOT, (), ASK), (LOT, ASK, ASK), ()):
            self.assertIs(is_plan(Book(THREE), ABC, thing), False)
        self.assertIs(is_plan(Book(THREE, [ABC]), ABC, ASK), False)
        self.assertIs(is_plan(Book(THREE, [ABC]), ABC, ()), True)
        # It settles the claim, but by more questions than the fewest.
        book = Book(FOUR)
        self.assertIs(is_plan(book, ABC, (ABD, ASK, ASK)), False)
        self.assertEqual(worst_of(FOUR, kept(FOUR, ()), ABC, (ABD, ASK, ASK)), 2)

    def test_more_questions_where_it_is_not_the_worst_are_let_by(self):
        claim = ("all", (ABC, ("left", "a", "b", "d")))
        both = (ABD, (), ())
        other = ("some", (claim, ("all", (("not", ABC), ("left", "a", "c", "d")))))
        for thing in ((LOT, both, ()), (ABD, ASK, ())):
            self.assertIs(is_plan(Book(FOUR), claim, thing), True)
        self.assertIs(is_plan(Book(FOUR), other, (LOT, both, (ACD, (), ()))), True)
        self.assertIs(is_plan(Book(FOUR), other, (LOT, both, (ACD, (), (ABD, (), ())))), False)

    def test_more_questions_than_the_fewest_on_one_side_alone(self):
        both = ("all", (ABC, ("left", "a", "b", "d")))
        some = ("some", (ABC, ("left", "a", "b", "d")))
        longer = (BCD, (ABD, (), ()), (ABD, (), ()))
        for claim, thing in ((both, (LOT, longer, ())), (some, (LOT, (), longer))):
            self.assertEqual(worst_of(FOUR, kept(FOUR, ()), claim, thing), 3)
            self.assertEqual(fewest(Book(FOUR), claim), 2)
            self.assertIs(is_plan(Book(FOUR), claim, thing), False)

    def test_a_question_to_spare_parts_too(self):
        # Three questions at worst: one is to spare where a, b, c is False.
        atoms = [("left", *lot) for lot in (LOT, ABD, BCD)]
        claim = ("some", (("all", tuple(atoms)), ("all", (("not", ABC), ("left", "a", "c", "d")))))
        whole = (ABD, (BCD, (), ()), ())
        ask = (ACD, (), ())
        for thing, found in ((ask, True), ((ABD, ask, ask), True), ((LOT, (), ask), False), ((LOT, ask, ask), False)):
            self.assertIs(is_plan(Book(FOUR), claim, (LOT, whole, thing)), found)
        claim = ("some", (("all", (ABC, ("left", "a", "c", "d"))), ("all", (("not", ABC), *atoms[1:]))))
        for thing, found in ((ask, True), ((LOT, ask, ()), False), ((LOT, ask, ask), False)):
            self.assertIs(is_plan(Book(FOUR), claim, (LOT, thing, whole)), found)

    def test_both_ways_exchanged(self):
        claim = ("all", (ABC, ("left", "a", "b", "d")))
        self.assertIs(is_plan(Book(FOUR), claim, (LOT, (ABD, (), ()), ())), True)
        self.assertIs(is_plan(Book(FOUR), claim, (LOT, (), (ABD, (), ()))), False)

    def test_a_three_that_does_not_part(self):
        book = Book(FOUR, [ABC])
        claim = ("left", "a", "b", "d")
        self.assertIs(is_plan(book, claim, (ABD, (), ())), True)
        self.assertIs(is_plan(book, claim, (LOT, (ABD, (), ()), ())), False)
        self.assertIs(is_plan(book, claim, (LOT, (ABD, (), ()), (ABD, (), ()))), False)
        self.assertIs(is_plan(book, claim, ASK), False)

    def test_things_of_any_kind(self):
        wrong = [
            None, True, 0, "", [], {}, [LOT, (), ()], (list(LOT), (), ()), (LOT, [], ()), (LOT, (), []),
            (LOT, None, ()), (LOT, (), None), (LOT, ()), (LOT,), LOT, (LOT, (), (), ()), ((), (), ()),
            (("a", "c", "b"), (), ()), (("a", "b"), (), ()), (("a", "b", "e"), (), ()), mock.ANY, (mock.ANY, (), ()),
            (LOT, mock.ANY, ()), (LOT, (), mock.ANY), ((), ()), ((),), {LOT: ()}, iter(ASK), "abc",
            (("left", *LOT), (), ()), ("plan", ASK),
        ]
        for value in wrong + wrong_values():
            self.assertIs(is_plan(Book(THREE), ABC, value), False)
            self.assertIs(is_plan(Book(THREE, [ABC]), ABC, value), False)
            self.assertIs(is_plan(Book(FOUR), ("all", (ABC, ("left", "a", "b", "d"))), (LOT, value, ())), False)

    def test_by_name(self):
        self.assertIs(is_plan(thing=ASK, claim=ABC, book=Book(THREE)), True)
        self.assertIs(is_plan(book=Book(THREE), thing=(), claim=ABC), False)


def near_plans(places, tree):
    """Things that are nearly a plan: both ways exchanged, a question more, an end in its place, of other threes."""
    if tree == ():
        return [(lot, (), ()) for lot in itertools.combinations(places, 3)]
    three, one, other = tree
    found = [(), (three, other, one), (three, (), other), (three, one, ()), list(tree), (three, one)]
    found += [(lot, one, other) for lot in itertools.combinations(places, 3)]
    found += [(three, further, other) for further in near_plans(places, one)]
    return found + [(three, one, further) for further in near_plans(places, other)]


def all_plans(deep):
    """All trees of four places that are at most so deep."""
    if deep == 0:
        return [()]
    lower = all_plans(deep - 1)
    return [()] + [(lot, one, other) for lot in itertools.combinations(FOUR, 3) for one in lower for other in lower]


class SurePlacesTest(Case):

    def test_good_many_books(self):
        told = set()
        for many in (3, 4, 5):
            edges = [set(border_at(at)) for _, at in placed(many)]
            for places, facts in possible_books(many, 100):
                left = [edges[number] for number in kept(places, facts)]
                sure = tuple(place for place in places if all(place in edge for edge in left))
                maybe = tuple(place for place in places if any(place in edge for edge in left))
                self.assertEqual(sure_places(Book(places, facts)), (sure, maybe))
                told.add((len(sure), len(maybe)))
        self.assertTrue({(3, 3), (4, 4), (3, 4), (0, 5), (3, 5)} <= told, told)

    def test_written_out(self):
        self.assertEqual(sure_places(Book(THREE)), (THREE, THREE))
        self.assertEqual(sure_places(Book(FOUR)), ((), FOUR))
        inner = Book(FOUR, [("left", *turn) for turn in ("abd", "bcd", "cad")])
        self.assertEqual(sure_places(book=inner), (LOT, LOT))
        # With d beyond the way from a to b all are at the border, otherwise d is within the others.
        self.assertEqual(sure_places(Book(FOUR, [ABC, *inner.without(0).facts])), (LOT, FOUR))

    def test_books_in_quarrel(self):
        for many in (3, 4, 5):
            for places, facts in quarrels(many, 20):
                book = Book(places, facts)
                self.assertIs(is_quarrel(book, self.refused(Quarrel, sure_places, book).tree), True)


class WhichErrorTest(Case):

    def test_no_claims_are_told_ahead(self):
        for value in wrong_claims():
            for facts in ((), (NEVER,)):
                book = Book(FOUR, facts)
                self.refuses(BadClaim, value, fewest, book)
                self.refuses(BadClaim, value, plan, book)
                self.assertIs(self.refused(BadClaim, is_plan, book, value, ()).value, value)
        for facts in ((), (NEVER,)):
            self.refuses(BadClaim, ABC, fewest, Book(WORDS, facts))
            self.refuses(BadClaim, list(ABC), plan, Book(WORDS, facts))

    def test_a_quarrel_is_told_of_each_book_that_is_not_possible(self):
        for many in (3, 4, 5):
            for places, facts in quarrels(many, 20):
                book = Book(places, facts)
                for claim in (("all", ()), NEVER, ("left", *places[:3])):
                    for told in (
                            self.refused(Quarrel, fewest, book, claim), self.refused(Quarrel, plan, book, claim),
                            self.refused(Quarrel, is_plan, book, claim, ()),
                            self.refused(Quarrel, is_plan, book, claim, None)):
                        self.assertIs(is_quarrel(book, told.tree), True)


if __name__ == "__main__":
    unittest.main()
