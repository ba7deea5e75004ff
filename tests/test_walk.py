"""Points [4], [20], [25] and the interface of leftmaps/walk.py."""

import itertools
import random
import unittest
from unittest import mock

from leftmaps.books import Book
from leftmaps.errors import BadFacts, BadLot, BadNumber, Quarrel
from leftmaps.maps import Map
from leftmaps.questions import next_question
from leftmaps.trees import is_quarrel
from leftmaps.walk import Walk, tried
from tests.booked import NEVER, kept, negated, possible_books, quarrels, told_maps
from tests.case import Case
from tests.claimed import ABC, FOUR, THREE, nots, wide, wrong_claims
from tests.samples import WORDS, wrong_values

LOT, ABD, ACD, BCD = itertools.combinations(FOUR, 3)
ALL = ("all", ())
NO_ABC = ("left", "b", "a", "c")
D_WITHIN = tuple(("left", *turn) for turn in ("abd", "bcd", "cad"))


class Stop(Exception):
    """What a block of a test raises."""


def no_threes():
    """Values, many of them nearly so, none of which is a three of the first four letters."""
    return wrong_values() + [
        (), ("a",), ("a", "b"), FOUR, ("b", "a", "c"), ("a", "c", "b"), ("a", "a", "b"), ("a", "b", "e"), "abc",
        ["a", "b", "c"], {"a", "b", "c"}, ("a", "b", ("c",)), ("a", "b", None), ("a", "b", mock.ANY), mock.ANY, (LOT,),
        ("left", *LOT), {"a": 1, "b": 2, "c": 3}, ("A", "b", "c"), (["a"], "b", "c"), ("a", {}, "c"),
    ]


class WalkCase(Case):

    def assert_is(self, walk, places, first, learnt):
        """Fails if the walk is not one from a book with the first facts that learnt the other ones."""
        facts = (*first, *learnt)
        self.assertIs(walk.book.__class__, Book)
        self.assertEqual((walk.book.places, walk.book.facts), (places, facts))
        self.assertEqual(len(walk), len(learnt))
        self.assertEqual(walk.many(), len(kept(places, facts)))


class NewWalkTest(WalkCase):

    def test_good_many_books(self):
        for many in (3, 4, 5):
            for places, facts in possible_books(many, 40):
                book = Book(places, facts)
                walk = Walk(book)
                self.assertEqual(walk.book, book)
                self.assert_is(walk, places, facts, ())
                self.assertEqual(Walk(book=book), walk)

    def test_the_book_is_a_property(self):
        self.assertIsInstance(vars(Walk)["book"], property)
        walk = Walk(Book(THREE))
        with self.assertRaises(AttributeError):
            walk.book = Book(THREE, [ABC])
        self.assertEqual(walk.book, Book(THREE))

    def test_books_in_quarrel(self):
        for many in (3, 4, 5):
            for places, facts in quarrels(many, 20):
                book = Book(places, facts)
                self.assertIs(is_quarrel(book, self.refused(Quarrel, Walk, book).tree), True)


class AnswerTest(WalkCase):

    def test_true_and_false(self):
        walk = Walk(Book(FOUR))
        self.assertIsNone(walk.answer(LOT, True))
        self.assert_is(walk, FOUR, (), [ABC])
        self.assertIsNone(walk.answer(is_left=False, three=BCD))
        self.assert_is(walk, FOUR, (), [ABC, ("not", ("left", "b", "c", "d"))])
        walk.answer(LOT, True)
        self.assert_is(walk, FOUR, (), [ABC, ("not", ("left", "b", "c", "d")), ABC])

    def test_walks_to_each_map_by_what_is_asked(self):
        for many in (3, 4, 5):
            places = WORDS[:many]
            for told_of in told_maps(places)[::5]:
                walk = Walk(Book(places))
                learnt = []
                while walk.ask() is not None:
                    three = walk.ask()
                    self.assertEqual(three, next_question(walk.book))
                    self.assertIsNone(walk.surely(three))
                    walk.answer(three, told_of[three])
                    learnt.append(("left", *three) if told_of[three] else ("not", ("left", *three)))
                    self.assertIs(walk.surely(three), told_of[three])
                    self.assert_is(walk, places, (), learnt)
                self.assertEqual(walk.many(), 1)
                for three in itertools.combinations(places, 3):
                    self.assertIs(walk.surely(three), told_of[three])

    def test_no_threes(self):
        walk = Walk(Book(FOUR, [ABC]))
        for value in no_threes():
            for is_left in (True, False, None, 1):
                self.assertIs(self.refused(BadLot, walk.answer, value, is_left).value, value)
        self.refused(BadLot, Walk(Book(THREE)).answer, ABD, True)
        self.assert_is(walk, FOUR, [ABC], ())

    def test_no_truth_values(self):
        walk = Walk(Book(FOUR, [ABC]))
        wrong = [value for value in wrong_values() if value.__class__ is not bool]
        for value in wrong + [0, 1, None, "True", mock.ANY, ()]:
            self.assertIs(self.refused(BadNumber, walk.answer, LOT, value).value, value)
            self.assertIs(self.refused(BadNumber, walk.answer, BCD, value).value, value)
        self.assert_is(walk, FOUR, [ABC], ())

    def test_an_answer_that_makes_a_quarrel(self):
        walk = Walk(Book(FOUR, D_WITHIN))
        for three, wrong in ((LOT, False), (ABD, False), (ACD, True), (BCD, False)):
            atom = ("left", *three)
            book = walk.book.adding(atom if wrong else ("not", atom))
            self.assertIs(is_quarrel(book, self.refused(Quarrel, walk.answer, three, wrong).tree), True)
            self.assert_is(walk, FOUR, D_WITHIN, ())
            walk.answer(three, not wrong)
            walk.undo()

    def test_of_a_full_book(self):
        walk = Walk(Book(FOUR, [ALL] * 12))
        self.assertIsNone(self.refused(BadFacts, walk.answer, LOT, True).number)
        self.refused(BadLot, walk.answer, LOT[::-1], True)
        self.refused(BadNumber, walk.answer, LOT, 1)


class LearnTest(WalkCase):

    def test_claims_of_each_sort(self):
        for many in (3, 4, 5):
            for places, facts in possible_books(many, 40):
                walk = Walk(Book(places))
                for number, fact in enumerate(facts):
                    self.assertIsNone(walk.learn(claim=fact))
                    self.assert_is(walk, places, (), facts[:number + 1])
                self.assertEqual(walk.book, Book(places, facts))

    def test_no_claims(self):
        for first in ((), (ABC,), [ALL] * 12):
            walk = Walk(Book(FOUR, first))
            for value in wrong_claims():
                self.assertEqual(self.refused(BadFacts, walk.learn, value).number, len(first))
            self.assert_is(walk, FOUR, first, ())

    def test_twelve_facts_and_thirteen(self):
        for many in (0, 5, 11):
            walk = Walk(Book(FOUR, [ALL] * many))
            for number in range(12 - many):
                walk.learn(ABC)
            self.assert_is(walk, FOUR, [ALL] * many, [ABC] * (12 - many))
            for claim in (ABC, NO_ABC, NEVER, nots(8), wide(300)):
                self.assertIsNone(self.refused(BadFacts, walk.learn, claim).number)
            self.assertEqual(self.refused(BadFacts, walk.learn, list(ABC)).number, 12)
            self.assert_is(walk, FOUR, [ALL] * many, [ABC] * (12 - many))

    def test_a_fact_that_makes_a_quarrel(self):
        for many in (3, 4, 5):
            for places, facts in quarrels(many, 20):
                walk = Walk(Book(places))
                for number, fact in enumerate(facts):
                    if kept(places, facts[:number + 1]):
                        walk.learn(fact)
                        continue
                    told = self.refused(Quarrel, walk.learn, fact)
                    self.assertIs(is_quarrel(Book(places, facts[:number + 1]), told.tree), True)
                    self.assert_is(walk, places, (), facts[:number])
                    break

    def test_the_book_that_was_handed_in_stays(self):
        book = Book(FOUR, [ABC])
        walk = Walk(book)
        walk.learn(("left", "a", "b", "d"))
        held = walk.book
        walk.learn(ALL)
        self.assertEqual(book, Book(FOUR, [ABC]))
        self.assertEqual(held, Book(FOUR, [ABC, ("left", "a", "b", "d")]))
        self.assertEqual(Walk(book).book, book)


class UndoTest(WalkCase):

    def learnt(self, first, many):
        """A walk from a book with these first facts that learnt so many."""
        walk = Walk(Book(FOUR, first))
        for number in range(many):
            walk.learn(([ABC, ALL, ("not", NO_ABC)] * 4)[number])
        return walk

    def test_one_some_and_all(self):
        for first in ((), (ABC,), (ALL, ABC, ALL)):
            for many in range(1, 10):
                rest = ([ABC, ALL, ("not", NO_ABC)] * 4)
                for back in range(1, many + 1):
                    walk = self.learnt(first, many)
                    self.assertIsNone(walk.undo(back))
                    self.assert_is(walk, FOUR, first, rest[:many - back])
                walk = self.learnt(first, many)
                for back in range(many):
                    self.assertIsNone(walk.undo())
                    self.assert_is(walk, FOUR, first, rest[:many - back - 1])
                self.assertEqual(walk.book, Book(FOUR, first))

    def test_by_name(self):
        walk = self.learnt((), 5)
        walk.undo(many=3)
        self.assertEqual(len(walk), 2)

    def test_more_than_were_learnt_and_no_numbers(self):
        wrong = [0, -1, True, False, None, "1", "", int, (1,), [1], {1}, mock.ANY, 10 ** 999, -10 ** 999, object()]
        for first in ((), (ABC,), [ALL] * 6):
            for many in (0, 1, 4):
                walk = self.learnt(first, many)
                for value in [*wrong, many + 1, many + 2, 12, 13]:
                    self.assertIs(self.refused(BadNumber, walk.undo, value).value, value)
                for value in [value for value in wrong_values() if value.__class__ is not int]:
                    self.refuses(BadNumber, value, walk.undo)
                self.assertEqual(len(walk), many)
                self.assertEqual(walk.book, self.learnt(first, many).book)

    def test_nothing_is_left_to_take_back(self):
        walk = Walk(Book(FOUR, [ABC, ALL]))
        self.assertEqual(self.refused(BadNumber, walk.undo).value, 1)
        walk.learn(ALL)
        walk.undo()
        self.assertEqual(self.refused(BadNumber, walk.undo).value, 1)
        self.assert_is(walk, FOUR, [ABC, ALL], ())

    def test_after_a_refusal_too(self):
        walk = self.learnt((), 2)
        self.refused(Quarrel, walk.learn, NO_ABC)
        self.refused(BadFacts, walk.learn, None)
        walk.undo()
        self.assert_is(walk, FOUR, (), [ABC])
        walk.undo()
        walk.learn(NO_ABC)
        self.assert_is(walk, FOUR, (), [NO_ABC])


class TellsTest(WalkCase):

    def test_surely_and_ask_of_good_many_books(self):
        told = set()
        for many in (3, 4, 5):
            for places, facts in possible_books(many, 60):
                walk = Walk(Book(places, facts))
                left = kept(places, facts)
                for three in itertools.combinations(places, 3):
                    seen = {told_maps(places)[number][three] for number in left}
                    self.assertIs(walk.surely(three), seen.pop() if len(seen) == 1 else None)
                    told.add(walk.surely(three=three))
                self.assertEqual(walk.ask(), next_question(walk.book))
        self.assertEqual(told, {True, False, None})

    def test_surely_of_no_threes(self):
        walk = Walk(Book(FOUR, [ABC]))
        for value in no_threes():
            self.refuses(BadLot, value, walk.surely)
        self.refuses(BadLot, ABD, Walk(Book(THREE)).surely)

    def test_asking_changes_nothing(self):
        walk = Walk(Book(FOUR, [ABC]))
        for _ in range(3):
            self.assertEqual((walk.many(), walk.ask(), walk.surely(LOT), len(walk)), (7, ABD, True, 0))
        self.assert_is(walk, FOUR, [ABC], ())


class EqualTest(WalkCase):

    def test_by_different_ways(self):
        one = Walk(Book(FOUR, [ABC]))
        one.learn(("left", "a", "b", "d"))
        other = Walk(Book(FOUR))
        other.answer(LOT, True)
        other.learn(ALL)
        other.undo()
        self.assertIs(one == other, False)
        other.answer(ABD, True)
        self.assertIs(one == other, True)
        self.assertIs(one != other, False)
        self.assertNotEqual(len(one), len(other))
        self.assertIs(one == Walk(one.book), True)
        one.undo()
        self.assertIs(one == other, False)
        self.assertIs(one != other, True)

    def test_alike_is_not_equal(self):
        self.assertIs(Walk(Book(THREE, [ABC])) == Walk(Book(THREE, [("left", "b", "c", "a")])), False)
        self.assertIs(Walk(Book(THREE)) == Walk(Book(FOUR)), False)

    def test_beside_other_values(self):
        walk = Walk(Book(THREE, [ABC]))
        for value in [*wrong_values(), walk.book, Map(THREE, [True]), (ABC,), walk.book.facts, THREE]:
            self.assertIs(walk == value, False)
            self.assertIs(value == walk, False)
            self.assertIs(walk != value, True)
            self.assertIs(value != walk, True)

    def test_other_operators(self):
        self.has_no_operators(Walk(Book(THREE)), [Walk(Book(THREE)), Book(THREE), Map(THREE, [True])])

    def test_no_iterating_no_in_no_items(self):
        walk = Walk(Book(THREE, [ABC]))
        walk.learn(ALL)
        for function in (iter, list, tuple, set, sorted, dict, reversed):
            with self.assertRaises(TypeError):
                function(walk)
        for value in (ABC, ALL, "a", True, None, 0, walk):
            with self.assertRaises(TypeError):
                value in walk
        with self.assertRaises(TypeError):
            walk[0]


class TrialTest(WalkCase):

    def walk(self):
        """A walk that learnt two facts behind one."""
        walk = Walk(Book(FOUR, [ABC]))
        walk.learn(ALL)
        walk.learn(("left", "a", "b", "d"))
        return walk

    def assert_as_before(self, walk):
        self.assert_is(walk, FOUR, [ABC], [ALL, ("left", "a", "b", "d")])

    def test_the_block_gets_the_walk_itself(self):
        walk = self.walk()
        with walk.trial() as same:
            self.assertIs(same, walk)
            self.assert_as_before(walk)
        with walk.trial():
            self.assert_as_before(walk)
        self.assert_as_before(walk)

    def test_what_is_learnt_is_gone_behind_it(self):
        walk = self.walk()
        with walk.trial() as same:
            same.learn(("left", "b", "c", "d"))
            walk.answer(ACD, False)
            self.assertEqual(len(walk), 4)
            self.assertEqual(walk.many(), 1)
        self.assert_as_before(walk)
        walk.undo(2)
        self.assert_is(walk, FOUR, [ABC], ())

    def test_what_is_taken_back_is_there_again_behind_it(self):
        walk = self.walk()
        with walk.trial():
            walk.undo(2)
            self.assert_is(walk, FOUR, [ABC], ())
            self.assertEqual(self.refused(BadNumber, walk.undo).value, 1)
            walk.answer(ABD, False)
            self.assert_is(walk, FOUR, [ABC], [("not", ("left", "a", "b", "d"))])
        self.assert_as_before(walk)
        with walk.trial():
            walk.learn(ALL)
            walk.undo(3)
        self.assert_as_before(walk)

    def test_an_exception_passes(self):
        walk = self.walk()
        stop = Stop("x")
        with self.assertRaises(Stop) as caught:
            with walk.trial():
                walk.undo()
                walk.learn(ALL)
                raise stop
        self.assertIs(caught.exception, stop)
        self.assert_as_before(walk)
        for error in (KeyboardInterrupt, ValueError, StopIteration, GeneratorExit):
            with self.assertRaises(error):
                with walk.trial():
                    walk.undo(2)
                    raise error
            self.assert_as_before(walk)

    def test_an_error_of_the_walk_passes(self):
        walk = self.walk()
        with self.assertRaises(Quarrel):
            with walk.trial():
                walk.learn(("left", "b", "c", "d"))
                walk.answer(LOT, False)
        self.assert_as_before(walk)

    def test_leaving_the_block_by_return_break_and_continue(self):
        walk = self.walk()

        def many_then():
            with walk.trial():
                walk.undo(2)
                return walk.many()

        self.assertEqual(many_then(), 7)
        self.assert_as_before(walk)
        for stop in (True, False):
            for _ in range(2):
                with walk.trial():
                    walk.learn(ALL)
                    if stop:
                        break
                    continue
            self.assert_as_before(walk)

    def test_trials_in_one_another(self):
        walk = self.walk()
        with walk.trial():
            walk.learn(ALL)
            with walk.trial() as same:
                self.assertIs(same, walk)
                walk.undo(3)
                with walk.trial():
                    walk.learn(D_WITHIN[1])
                self.assert_is(walk, FOUR, [ABC], ())
                walk.answer(ABD, False)
            self.assert_is(walk, FOUR, [ABC], [ALL, ("left", "a", "b", "d"), ALL])
            walk.undo()
            self.assert_as_before(walk)
            walk.undo()
        self.assert_as_before(walk)

    def test_trials_of_two_walks(self):
        one, other = self.walk(), Walk(Book(THREE))
        with one.trial(), other.trial():
            one.undo()
            other.learn(NO_ABC)
        self.assert_as_before(one)
        self.assert_is(other, THREE, (), ())

    def test_the_walk_as_it_was_when_the_block_began(self):
        walk = self.walk()
        with walk.trial():
            pass
        trial = walk.trial()
        with trial as same:
            same.undo()
        self.assert_as_before(walk)
        walk.undo()
        with walk.trial():
            walk.learn(ALL)
        self.assert_is(walk, FOUR, [ABC], [ALL])

    def test_tried(self):
        walk = self.walk()
        value = object()
        passed = []

        def function(same):
            passed.append(same)
            same.undo(2)
            same.learn(("not", ("left", "a", "b", "d")))
            passed.append(len(same))
            return value

        self.assertIs(tried(walk, function), value)
        self.assertIs(passed[0], walk)
        self.assertEqual(passed[1], 1)
        self.assert_as_before(walk)
        self.assertEqual(tried(function=lambda same: same.many(), walk=walk), walk.many())
        self.assertIsNone(tried(walk, lambda same: same.undo()))
        self.assertEqual(tried(walk, lambda same: tried(same, len)), 2)
        self.assert_as_before(walk)

    def test_tried_passes_errors(self):
        walk = self.walk()

        def function(same):
            same.undo()
            raise Stop

        with self.assertRaises(Stop):
            tried(walk, function)
        self.assert_as_before(walk)
        self.refused(BadFacts, tried, walk, lambda same: same.learn(None))
        self.assert_as_before(walk)


class LongWalkTest(WalkCase):

    def test_many_steps_against_a_list(self):
        chance = random.Random(20)
        for many in (3, 4, 5):
            for places, facts in possible_books(many, 26)[::3]:
                walk = Walk(Book(places, facts))
                learnt = []
                for _ in range(25):
                    three = chance.choice(list(itertools.combinations(places, 3)))
                    is_left = chance.random() < 0.5
                    fact = ("left", *three) if is_left else ("not", ("left", *three))
                    if learnt and chance.random() < 0.3:
                        back = chance.randrange(1, len(learnt) + 1)
                        walk.undo(back)
                        del learnt[-back:]
                    elif len(facts) + len(learnt) == 12:
                        self.assertIsNone(self.refused(BadFacts, walk.answer, three, is_left).number)
                    elif not kept(places, (*facts, *learnt, fact)):
                        self.refused(Quarrel, walk.answer, three, is_left)
                        self.assertIs(walk.surely(three), not is_left)
                    else:
                        walk.answer(three, is_left)
                        learnt.append(fact)
                    self.assert_is(walk, places, facts, learnt)

    def test_opposites_of_what_is_sure_make_a_quarrel(self):
        for places, facts in possible_books(4, 40):
            walk = Walk(Book(places, facts))
            for three in itertools.combinations(places, 3):
                sure = walk.surely(three)
                if sure is not None and len(facts) < 12:
                    self.refused(Quarrel, walk.answer, three, not sure)
                    atom = ("left", *three)
                    self.refused(Quarrel, walk.learn, negated(atom if sure else ("not", atom)))


if __name__ == "__main__":
    unittest.main()
