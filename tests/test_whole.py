"""Points [0] to [4] over the whole program."""

import copy
import itertools
import unittest

from leftmaps import bits, books, claims, errors, facts, looks, maps, nets, places, questions, rounds, texts, trees
from leftmaps import verdicts, walk
from leftmaps.books import Book
from leftmaps.maps import Map
from leftmaps.walk import Walk
from tests.case import Case
from tests.claimed import ABC, FOUR, THREE
from tests.test_interface import CLASSES, FUNCTIONS

LOT, ABD, ACD, BCD = itertools.combinations(FOUR, 3)
D_WITHIN = [("left", *turn) for turn in ("abd", "bcd", "cad")]
NO_ABC = ("left", "b", "a", "c")
SPOTS = [("a", 0, 0), ("b", 4, 0), ("c", 0, 4), ("d", 1, 1)]
AB, AC, AD, BC, BD, CD = itertools.combinations(FOUR, 2)
NET = (AB, AC, AD, BC, CD)
OTHER_NET = (AB, AD, BC, BD, CD)
HUGE = 10 ** 999


def view():
    """The map of the document's example."""
    return maps.from_spots(SPOTS)


def square():
    """A map of four places at the border."""
    return maps.from_spots([("a", 0, 0), ("b", 1, 0), ("c", 1, 1), ("d", 0, 1)])


def book():
    """The book of the document's example."""
    return Book(FOUR, D_WITHIN)


def quarrel():
    """A book that no map keeps."""
    return book().adding(NO_ABC)


def learnt():
    """A walk that learnt two facts behind one."""
    made = Walk(Book(FOUR, [ABC]))
    made.learn(("all", ()))
    made.answer(ABD, True)
    return made


def calls():
    """Calls of everything in the interface: where it stands, its name, and its arguments by their names."""
    tour = ("a", "c", "b", "d")
    tree = verdicts.verdict(book(), ABC)
    plan = questions.plan(Book(FOUR), ("all", (ABC, D_WITHIN[0])))
    return [
        (places, "need_places", {"thing": FOUR}), (places, "is_lot", {"places": FOUR, "thing": AB}),
        (places, "threes", {"places": FOUR}), (places, "ways", {"places": FOUR}), (places, "rules", {"places": FOUR}),
        (maps, "Map", {"places": FOUR, "turns": [True] * 4}), (maps, "from_spots", {"spots": SPOTS}),
        (maps, "spots_of", {"chart": view()}), (maps, "all_maps", {"places": FOUR}),
        (view(), "left", {"a": "a", "b": "c", "c": "b"}), (view(), "mirrored", {}), (view(), "only", {"lot": LOT}),
        (view(), "renamed", {"words": ("d", "b", "a", "x")}), (view(), "grown", {"word": "e"}),
        (looks, "border", {"chart": view()}), (looks, "layers", {"chart": view()}),
        (looks, "is_within", {"chart": view(), "place": "d", "lot": LOT}),
        (looks, "do_cross", {"chart": square(), "one": AC, "other": BD}),
        (looks, "sight", {"chart": view(), "place": "d"}), (looks, "can_cut", {"chart": view(), "lot": AB}),
        (looks, "meeting", {"chart": view(), "four": FOUR}), (nets, "all_nets", {"chart": square()}),
        (nets, "is_net", {"chart": square(), "thing": NET}), (nets, "exchanges", {"chart": square(), "net": NET}),
        (nets, "exchanged", {"chart": square(), "net": NET, "pair": (AC, BD)}),
        (nets, "fewest_exchanges", {"chart": square(), "one": NET, "other": OTHER_NET}),
        (nets, "check_exchanges", {"chart": square(), "one": NET, "other": OTHER_NET, "thing": ((AC, BD),)}),
        (rounds, "all_rounds", {"places": FOUR}), (rounds, "crossings", {"chart": square(), "tour": tour}),
        (rounds, "clean_rounds", {"chart": view()}), (rounds, "undone", {"chart": square(), "tour": tour}),
        (rounds, "longest_undoing", {"chart": square(), "tour": tour}),
        (rounds, "check_undoing", {"chart": square(), "tour": tour, "thing": (tour, FOUR)}),
        (claims, "need_claim", {"places": FOUR, "thing": ABC}), (claims, "holds", {"chart": view(), "claim": ABC}),
        (claims, "at_border", {"places": FOUR, "place": "d"}),
        (claims, "lies_within", {"places": FOUR, "place": "d", "lot": LOT}),
        (claims, "ways_cross", {"places": FOUR, "one": AC, "other": BD}),
        (claims, "is_cut", {"places": FOUR, "lot": AB}), (books, "Book", {"places": FOUR, "facts": D_WITHIN}),
        (books, "Book", {"places": FOUR}), (book(), "adding", {"claim": ABC}), (book(), "without", {"number": 1}),
        (book(), "keeps", {"chart": view()}),
        (trees, "closed", {"places": FOUR, "known": {ABD: True, BCD: True, ACD: False}}),
        (trees, "judged", {"known": {ABD: True, LOT: False}, "claim": ("some", (ABC, D_WITHIN[1]))}),
        (trees, "is_quarrel", {"book": quarrel(), "thing": verdicts.possible(quarrel())[1]}),
        (trees, "shows", {"book": book(), "claim": ABC, "thing": tree[1]}), (verdicts, "possible", {"book": book()}),
        (verdicts, "possible", {"book": quarrel()}), (verdicts, "verdict", {"book": book(), "claim": ABC}),
        (verdicts, "verdict", {"book": book(), "claim": NO_ABC}), (verdicts, "follows", {"book": book(), "claim": ABC}),
        (verdicts, "check", {"book": book(), "claim": ABC, "paper": tree}),
        (bits, "set_of", {"places": FOUR, "claim": ABC}), (bits, "left_by", {"book": Book(FOUR, [ABC])}),
        (bits, "maps_in", {"places": FOUR, "number": 77}), (bits, "follows_by_bits", {"book": book(), "claim": ABC}),
        (questions, "next_question", {"book": book().without(0)}),
        (questions, "fewest", {"book": Book(FOUR), "claim": ABC}),
        (questions, "plan", {"book": Book(FOUR), "claim": ("all", (ABC, D_WITHIN[0]))}),
        (questions, "is_plan", {"book": Book(FOUR), "claim": ("all", (ABC, D_WITHIN[0])), "thing": plan}),
        (questions, "sure_places", {"book": book()}), (facts, "needless", {"book": book().adding(ABC)}),
        (facts, "least_facts", {"book": book().adding(ABC), "claim": ABC}),
        (facts, "alike", {"one": book(), "other": book().without(1)}),
        (facts, "parted", {"one": book(), "other": book().without(1)}), (walk, "Walk", {"book": book()}),
        (walk, "tried", {"walk": learnt(), "function": Walk.many}), (learnt(), "many", {}), (learnt(), "ask", {}),
        (learnt(), "surely", {"three": LOT}), (texts, "claim_text", {"places": FOUR, "claim": ("not", ABC)}),
        (texts, "read_claim", {"places": FOUR, "text": "all[ a b : c; some[ ] ]"}),
        (texts, "book_text", {"book": book()}), (texts, "read_book", {"text": "places a b c\na b : c"}),
        (texts, "spots_text", {"spots": tuple(SPOTS)}), (texts, "read_spots", {"text": "a 0 0\nb 1 0\nc 0 -1"}),
    ]


def changing_calls():
    """Calls of the methods of a walk that change it, each with its arguments by their names."""
    return [
        ("answer", {"three": BCD, "is_left": False}), ("learn", {"claim": D_WITHIN[1]}), ("undo", {"many": 2}),
        ("undo", {}),
    ]


def parameters_of(found):
    """The values that two maps, books or walks have to have in common, or the value itself."""
    if isinstance(found, Walk):
        return (Walk, parameters_of(found.book), len(found))
    if isinstance(found, Book):
        return (Book, found.places, found.facts)
    if isinstance(found, Map):
        return (Map, found.places, found.turns)
    if isinstance(found, (list, tuple)):
        return (found.__class__, [parameters_of(item) for item in found])
    return (found.__class__, found)


class WholeTest(Case):

    def test_everything_of_the_interface_is_called(self):
        called = {name for _, name, _ in calls()} | {name for name, _ in changing_calls()}
        for functions in FUNCTIONS.values():
            self.assertLessEqual(set(functions), called)
        for classes in CLASSES.values():
            for name, methods in classes.items():
                plain = {method for method in methods if not method.startswith("__")} - {"trial"}
                self.assertLessEqual({name} | plain, called)

    def test_by_position_and_by_name_in_any_order(self):
        for place, name, named in calls():
            function = getattr(place, name)
            plain = parameters_of(function(*named.values()))
            for order in list(itertools.permutations(named))[:6]:
                self.assertEqual(parameters_of(function(**{word: named[word] for word in order})), plain, name)
        for name, named in changing_calls():
            one, other, third = learnt(), learnt(), learnt()
            self.assertIsNone(getattr(one, name)(*named.values()))
            self.assertIsNone(getattr(other, name)(**named))
            self.assertIsNone(getattr(third, name)(**dict(reversed(named.items()))))
            self.assertEqual(parameters_of(one), parameters_of(other))
            self.assertEqual(parameters_of(one), parameters_of(third))
            self.assertNotEqual(parameters_of(one), parameters_of(learnt()))

    def test_equal_calls_return_equal_results_whatever_was_asked_in_between(self):
        made = calls()
        first = [parameters_of(getattr(place, name)(**named)) for place, name, named in made]
        for place, name, named in made[::-1]:
            found = getattr(place, name)(**named)
            if isinstance(found, (list, dict)):
                found.clear()
        again = [parameters_of(getattr(place, name)(**named)) for place, name, named in made]
        self.assertEqual(again, first)
        fresh = [parameters_of(getattr(place, name)(**named)) for place, name, named in calls()]
        self.assertEqual(fresh, first)

    def test_arguments_and_objects_stay_as_they_were(self):
        for place, name, named in calls():
            before = {word: parameters_of(copy.copy(value)) for word, value in named.items()}
            held = parameters_of(place)
            getattr(place, name)(**named)
            self.assertEqual({word: parameters_of(value) for word, value in named.items()}, before, name)
            self.assertEqual(parameters_of(place), held, name)

    def test_later_changes_to_what_was_passed_have_no_effect(self):
        turns, listed, spots, known = [True] * 4, list(D_WITHIN), list(SPOTS), {ABD: True}
        kept = [Map(FOUR, turns), Book(FOUR, listed), maps.from_spots(spots), trees.closed(FOUR, known)]
        before = [parameters_of(item) for item in kept]
        turns.reverse()
        turns.pop()
        listed.clear()
        spots[0] = ("x", 9, 9)
        known[BCD] = True
        self.assertEqual([parameters_of(item) for item in kept], before)

    def test_what_is_returned_is_a_new_list_or_dict(self):
        for place, name, named in calls():
            found = getattr(place, name)(**named)
            if isinstance(found, (list, dict)):
                self.assertIsNot(getattr(place, name)(**named), found, name)
                for value in named.values():
                    self.assertIsNot(found, value)

    def test_true_and_false_are_no_integers(self):
        for value in (True, False):
            self.assertIs(self.refused(errors.BadNumber, book().without, value).value, value)
            self.assertIs(self.refused(errors.BadNumber, book().__getitem__, value).value, value)
            self.assertIs(self.refused(errors.BadNumber, learnt().undo, value).value, value)
            self.assertIs(self.refused(errors.BadNumber, bits.maps_in, FOUR, value).value, value)
            self.assertEqual(self.refused(errors.BadSpots, maps.from_spots, [*SPOTS[:3], ("d", value, 9)]).place, 3)
            paper = ("spots", (*SPOTS[:3], ("d", 9, value)))
            self.assertEqual(self.refused(errors.BadPaper, verdicts.check, book(), NO_ABC, paper).place, "spots")
        self.assertIs(self.refused(errors.BadNumber, learnt().answer, BCD, 1).value, 1)
        self.assertIsNone(self.refused(errors.BadTurns, Map, FOUR, [True, True, True, 1]).place)

    def test_integers_of_1000_digits(self):
        for value in (HUGE, -HUGE, 10 * HUGE - 1, 1 - 10 * HUGE):
            self.assertIs(self.refused(errors.BadNumber, book().without, value).value, value)
            self.assertIs(self.refused(errors.BadNumber, book().__getitem__, value).value, value)
            self.assertIs(self.refused(errors.BadNumber, learnt().undo, value).value, value)
            self.assertIs(self.refused(errors.BadNumber, learnt().answer, BCD, value).value, value)
            self.assertIs(self.refused(errors.BadNumber, bits.maps_in, FOUR, value).value, value)
            self.assertIs(self.refused(errors.BadPlaces, places.need_places, value).value, value)
        far = (("a", -HUGE, -HUGE), ("b", HUGE, 1 - HUGE), ("c", 0, HUGE), ("d", 0, 0))
        self.assertIs(book().keeps(maps.from_spots(far)), True)
        self.assertEqual(verdicts.check(book(), NO_ABC, ("spots", far)), "spots")
        self.assertEqual(texts.read_spots(texts.spots_text(far)), far)

    def test_which_of_two_errors(self):
        bad = quarrel()
        self.refused(errors.BadPlaces, Book, LOT[::-1], None)
        self.refused(errors.BadClaim, verdicts.check, bad, None, None)
        self.refused(errors.Quarrel, verdicts.check, bad, ABC, None)
        self.refused(errors.BadClaim, questions.fewest, Book(("a", "b", "c", "d", "e"), [("some", ())]), None)
        self.refused(errors.Quarrel, questions.fewest, Book(("a", "b", "c", "d", "e"), [("some", ())]), ABC)
        self.refused(errors.TooMany, questions.fewest, Book(("a", "b", "c", "d", "e")), ABC)
        self.refused(errors.BadPlaces, facts.alike, bad, Book(THREE, [("some", ())]))
        self.refused(errors.BadLot, learnt().answer, LOT[::-1], None)
        self.refused(errors.BadNumber, Walk(Book(FOUR, [ABC] * 12)).answer, LOT, None)
        self.refused(errors.BadFacts, Walk(Book(FOUR, [ABC] * 12)).answer, LOT, False)
        self.refused(errors.BadPlaces, texts.read_claim, None, None)
        self.refused(errors.BadText, texts.read_spots, "a 0 0\nb 1 1\nc 2 2\nd")

    def test_maps_books_and_walks_beside_one_another(self):
        made = [view(), book(), learnt()]
        for one, other in itertools.permutations(made, 2):
            self.assertIs(one == other, False)
            self.assertIs(one != other, True)
            for sign in ("__lt__", "__le__", "__gt__", "__ge__", "__add__", "__or__", "__sub__", "__mul__"):
                self.assertIs(getattr(one, sign, lambda _: NotImplemented)(other), NotImplemented)
            with self.assertRaises(TypeError):
                one in other
        for one in made:
            with self.assertRaises(TypeError):
                list(one)
            self.assertIs(one == copy.copy(one), True)


if __name__ == "__main__":
    unittest.main()
