"""Points [20], [23], [24], [26] and the interface of leftmaps/verdicts.py."""

import itertools
import unittest
from unittest import mock

from leftmaps.bits import follows_by_bits
from leftmaps.books import Book
from leftmaps.claims import at_border, is_cut, lies_within, ways_cross
from leftmaps.errors import BadClaim, BadPaper, Quarrel
from leftmaps.maps import all_maps, spots_of
from leftmaps.trees import is_quarrel, shows
from leftmaps.verdicts import check, follows, possible, verdict
from tests.booked import NEVER, cases_in, chain_of, ends_in, full_tree, has_form, is_shown, kept, negated
from tests.booked import possible_books, quarrels, tree_with, turns_of, where
from tests.case import Case
from tests.claimed import ABC, FOUR, THREE, claims_on, is_so_at, nots, wide, wrong_claims
from tests.samples import WORDS, rule_names, turns_at, wrong_values

LOT = ("a", "b", "c")
CASE = (LOT, (), ())
D_WITHIN = [("left", *turn) for turn in ("abd", "bcd", "cad")]
NO_ABC = ("left", "b", "a", "c")
SPOTS = (("a", 0, 0), ("b", 4, 0), ("c", 0, 4), ("d", 1, 1))


class PaperCase(Case):

    def assert_spots(self, spots, places, facts, claim=NEVER):
        """Fails if these are no spots, as they are told, at which all facts are so and the claim is not."""
        self.assertIs(spots.__class__, tuple)
        self.assertEqual(tuple(spot[0] for spot in spots), places)
        for spot in spots:
            self.assertIs(spot.__class__, tuple)
            self.assertEqual([part.__class__ for part in spot], [str, int, int])
            self.assertLess(max(abs(spot[1]), abs(spot[2])), 10 ** 900)
        at = {place: (x, y) for place, x, y in spots}
        for (ax, ay), (bx, by), (cx, cy) in itertools.combinations(at.values(), 3):
            self.assertNotEqual((bx - ax) * (cy - ay), (by - ay) * (cx - ax))
        self.assertTrue(all(is_so_at(at, fact) for fact in facts))
        self.assertFalse(is_so_at(at, claim))

    def assert_tree(self, tree, places, facts, claim=NEVER):
        """Fails if this is no tree of which all ends are closed for the claim of the book."""
        self.assertTrue(has_form(places, tree))
        self.assertLessEqual(ends_in(tree), 2000)
        self.assertLessEqual(cases_in(tree), 99)
        self.assertTrue(is_shown(places, facts, claim, tree))

    def assert_paper(self, paper, places, facts, claim):
        """Fails if this is no paper on a claim of a possible book."""
        word = "tree" if kept(places, facts) <= where(places, claim) else "spots"
        self.assertIs(paper.__class__, tuple)
        self.assertEqual((len(paper), paper[0]), (2, word))
        assert_it = self.assert_tree if word == "tree" else self.assert_spots
        assert_it(paper[1], places, facts, claim)


class PossibleTest(PaperCase):

    def test_books_that_some_map_keeps(self):
        for many, how_many in ((3, 60), (4, 120), (5, 120)):
            for places, facts in possible_books(many, how_many):
                word, spots = possible(Book(places, facts))
                self.assertEqual(word, "spots")
                self.assert_spots(spots, places, facts)

    def test_books_that_no_map_keeps(self):
        for many in (3, 4, 5):
            for places, facts in quarrels(many, 50):
                self.assertEqual(kept(places, facts), frozenset())
                book = Book(places, facts)
                word, tree = possible(book=book)
                self.assertEqual(word, "quarrel")
                self.assert_tree(tree, places, facts)
                self.assertIs(is_quarrel(book, tree), True)

    def test_all_books_of_one_or_two_atoms_of_three_places(self):
        atoms = [("left", *order) for order in itertools.permutations(THREE)]
        for one, other in itertools.product(atoms, repeat=2):
            word = "spots" if kept(THREE, (one, other)) else "quarrel"
            self.assertEqual(possible(Book(THREE, [one, other]))[0], word)

    def test_each_map_by_its_turns(self):
        for chart in all_maps(WORDS)[::3]:
            lots = itertools.combinations(WORDS, 3)
            facts = [("left", *lot) if turn else ("not", ("left", *lot)) for lot, turn in zip(lots, chart.turns)]
            word, spots = possible(Book(WORDS, facts))
            self.assertEqual(word, "spots")
            self.assertEqual(turns_at(WORDS, [spot[1:] for spot in spots]), chart.turns)

    def test_a_rule_without_what_it_concludes(self):
        for name in rule_names(WORDS):
            premises, conclusion = turns_of(name)
            facts = [("left", *turn) for turn in premises]
            self.assertEqual(possible(Book(WORDS, facts))[0], "spots")
            book = Book(WORDS, [*facts, ("not", ("left", *conclusion))])
            self.assertEqual(possible(book)[0], "quarrel")

    def test_it_is_a_pair(self):
        for facts in ([], [NEVER]):
            found = possible(Book(FOUR, facts))
            self.assertIs(found.__class__, tuple)
            self.assertEqual(len(found), 2)


class VerdictTest(PaperCase):

    def test_every_claim_of_good_many_books(self):
        for many, how_many, step in ((3, 30, 1), (4, 40, 1), (5, 12, 1), (5, 120, 20)):
            for places, facts in possible_books(many, how_many):
                book = Book(places, facts)
                for claim in claims_on(places)[::step]:
                    paper = verdict(book, claim)
                    self.assert_paper(paper, places, facts, claim)
                    self.assertEqual(check(book, claim, paper), paper[0])
                    self.assertIs(follows(book, claim), paper[0] == "tree")
                    self.assertIs(follows_by_bits(book, claim), paper[0] == "tree")

    def test_claims_that_tell_what_looks_tell(self):
        lots = [lot for many in (1, 2) for lot in itertools.combinations(WORDS, many)]
        claims = [at_border(WORDS, place) for place in WORDS] + [is_cut(WORDS, lot) for lot in lots]
        claims += [lies_within(WORDS, WORDS[0], lot) for lot in itertools.combinations(WORDS[1:], 3)]
        for places, facts in possible_books(5, 40)[::3]:
            for claim in claims:
                paper = verdict(Book(places, facts), claim)
                self.assert_paper(paper, places, facts, claim)

    def test_what_holds_of_all_maps_and_of_no_book_less(self):
        ways = list(itertools.combinations(WORDS, 2))
        pairs = [pair for pair in itertools.combinations(ways, 2) if not set(pair[0]) & set(pair[1])]
        # Of five places some two ways cross; of four that need not be so.
        crossed = ("some", tuple(ways_cross(WORDS, one, other) for one, other in pairs))
        self.assert_paper(verdict(Book(WORDS), crossed), WORDS, (), crossed)
        self.assertIs(follows(Book(WORDS), crossed), True)
        four = ("some", tuple(ways_cross(WORDS, one, other) for one, other in pairs if "ant" not in one + other))
        self.assertIs(follows(Book(WORDS), four), False)
        facts = (("not", crossed),)
        self.assertEqual(possible(Book(WORDS, facts))[0], "quarrel")
        self.assert_tree(possible(Book(WORDS, facts))[1], WORDS, facts)

    def test_deep_and_wide_claims(self):
        book = Book(FOUR, [nots(8), wide(300), nots(7)])
        self.assertEqual(possible(book)[0], "quarrel")
        book = Book(FOUR, [nots(7), wide(300)] * 6)
        for claim in (ABC, wide(300), nots(7), ("not", ("some", (NO_ABC,) * 298))):
            self.assertIs(follows(book, claim), True)
        self.assertIs(follows(book, nots(8)), False)

    def test_of_a_possible_book_a_claim_and_its_opposite_do_not_both_follow(self):
        for places, facts in possible_books(4, 40):
            for claim in claims_on(places)[::5]:
                self.assertFalse(follows(Book(places, facts), claim) and follows(Book(places, facts), negated(claim)))

    def test_by_name(self):
        book = Book(FOUR, D_WITHIN)
        self.assertEqual(verdict(claim=ABC, book=book)[0], "tree")
        self.assertIs(follows(claim=NO_ABC, book=book), False)
        self.assertEqual(check(paper=("spots", SPOTS), claim=NO_ABC, book=book), "spots")

    def test_books_and_claims_stay_as_they_were(self):
        facts = list(D_WITHIN)
        book = Book(FOUR, facts)
        first = verdict(book, ABC)
        self.refused(BadClaim, verdict, book, list(ABC))
        self.refused(Quarrel, verdict, book.adding(NEVER), ABC)
        self.assertEqual(verdict(book, ABC), first)
        self.assertEqual(book.facts, tuple(facts))


class ByHandTest(Case):

    def test_the_example_of_the_document(self):
        book = Book(FOUR, D_WITHIN)
        self.assertIs(follows(book, ABC), True)
        self.assertIs(follows(book, at_border(FOUR, "d")), False)
        self.assertEqual(check(book, ABC, verdict(book, ABC)), "tree")

    def test_a_place_within_three_others_lies_on_no_other_side(self):
        book = Book(FOUR, D_WITHIN)
        for atom in ("abc", "abd", "bcd", "cad"):
            self.assertIs(follows(book, ("left", *atom)), True)
            self.assertIs(follows(book, ("not", ("left", *atom))), False)
        self.assertIs(follows(book, lies_within(FOUR, "d", LOT)), True)
        for place in LOT:
            self.assertIs(follows(book, at_border(FOUR, place)), True)
        self.assertIs(follows(book, ("not", at_border(FOUR, "d"))), True)
        for way in itertools.combinations(LOT, 2):
            other = tuple(sorted({*LOT} - {*way})) + ("d",)
            self.assertIs(follows(book, ("not", ways_cross(FOUR, way, other))), True)

    def test_of_rings_of_four_the_ways_across_cross(self):
        ring = Book(FOUR, [("left", *turn) for turn in ("abc", "bcd", "cda", "dab")])
        self.assertIs(follows(ring, ways_cross(FOUR, ("a", "c"), ("b", "d"))), True)
        for one, other in ((("a", "b"), ("c", "d")), (("a", "d"), ("b", "c"))):
            self.assertIs(follows(ring, ways_cross(FOUR, one, other)), False)
            self.assertIs(follows(ring, ("not", ways_cross(FOUR, one, other))), True)
        for place in FOUR:
            self.assertIs(follows(ring, at_border(FOUR, place)), True)
        # Three of the turns leave it open whether the ring closes.
        part = ring.without(3)
        self.assertIs(follows(part, ways_cross(FOUR, ("a", "c"), ("b", "d"))), False)
        self.assertIs(follows(part, ("not", ways_cross(FOUR, ("a", "c"), ("b", "d")))), False)

    def test_sights_that_go_on(self):
        # From t all others lie to the left of t, s; p is seen ahead of q, and q ahead of r.
        places = ("p", "q", "r", "s", "t")
        book = Book(places, [("left", *turn) for turn in ("tsp", "tsq", "tsr", "tpq", "tqr")])
        self.assertIs(follows(book, ("left", "t", "p", "r")), True)
        self.assertIs(follows(book, at_border(places, "t")), True)
        for number in range(5):
            self.assertIs(follows(book.without(number), ("left", "t", "p", "r")), False)
        self.assertIs(follows(book, ("left", "p", "q", "r")), False)
        self.refused(Quarrel, follows, book.adding(("left", "t", "r", "p")), ("all", ()))

    def test_facts_that_quarrel(self):
        for facts in ([ABC, NO_ABC], [*D_WITHIN, NO_ABC], [NEVER], [("not", ("all", ()))],
                      [("not", at_border(FOUR, place)) for place in ("a", "b")]):
            book = Book(FOUR, facts)
            self.assertEqual(possible(book)[0], "quarrel")
            told = self.refused(Quarrel, follows, book, ABC)
            self.assertIs(is_quarrel(book, told.tree), True)


class CheckTest(PaperCase):

    book = Book(FOUR, D_WITHIN)

    def assert_bad(self, place, claim, paper, book=None):
        told = self.refused(BadPaper, check, self.book if book is None else book, claim, paper)
        self.assertEqual(told.place, place)

    def test_the_other_word(self):
        for claim in (ABC, NO_ABC, at_border(FOUR, "d"), ("left", "a", "b", "d")):
            word, thing = verdict(self.book, claim)
            other = "spots" if word == "tree" else "tree"
            self.assert_bad(other, claim, (other, thing))

    def test_no_pairs_with_one_of_both_words(self):
        word, tree = verdict(self.book, ABC)
        wrong = [
            None, True, 0, "", "tree", (), ("tree",), ("spots",), ("tree", tree, tree), ("tree", tree, ()),
            [word, tree], (tree, word), ("Tree", tree), ("quarrel", tree), ("form", tree), (None, tree), (True, tree),
            (["tree"], tree), (("tree",), tree), ({}, tree), (b"tree", tree), {"tree": tree}, ("tre", tree), ("", tree),
            (mock.ANY, tree), mock.ANY, ("tree", ("tree", tree)) * 2, {"tree", "spots"}, iter((word, tree)),
            (word, tree, None), tree, SPOTS,
        ]
        for value in wrong + wrong_values():
            self.assert_bad("form", ABC, value)
            self.assert_bad("form", NO_ABC, value)

    def test_trees_that_do_not_show_it(self):
        _, tree = verdict(self.book, ABC)
        for claim in (NO_ABC, at_border(FOUR, "d"), NEVER, nots(8)):
            self.assert_bad("tree", claim, ("tree", tree))
        wrong = [
            (), [], None, CASE[:2], (LOT, [], ()), list(tree), tree_with(LOT, 2001), chain_of(LOT, 100), ("tree", tree),
            SPOTS, (tree,), mock.ANY, "tree", True,
        ]
        for value in wrong + wrong_values():
            self.assert_bad("tree", ABC, ("tree", value))
        self.assertEqual(check(self.book, ABC, ("tree", full_tree(list(itertools.combinations(FOUR, 3))))), "tree")

    def test_trees_of_other_claims_and_books(self):
        for number, (places, facts) in enumerate(possible_books(4, 30)):
            book = Book(places, facts)
            claims = claims_on(places)[number % 7::7]
            claims = [claim for claim in claims if kept(places, facts) <= where(places, claim)]
            for one, other in itertools.product(claims[:6], repeat=2):
                _, tree = verdict(book, one)
                if is_shown(places, facts, other, tree):
                    self.assertEqual(check(book, other, ("tree", tree)), "tree")
                else:
                    self.assert_bad("tree", other, ("tree", tree), book)

    def test_spots_of_each_map(self):
        for places, facts in possible_books(4, 30):
            book = Book(places, facts)
            for claim in claims_on(places)[::29]:
                for number, chart in enumerate(all_maps(places)):
                    paper = ("spots", spots_of(chart))
                    if number in kept(places, facts) - where(places, claim):
                        self.assertEqual(check(book, claim, paper), "spots")
                    else:
                        self.assert_bad("spots", claim, paper, book)

    def test_spots_that_are_none(self):
        self.assertEqual(check(self.book, NO_ABC, ("spots", SPOTS)), "spots")
        a, b, c, d = SPOTS
        wrong = [
            list(SPOTS), (a, b, c), (a, b, c, d, ("e", 9, 8)), (b, a, c, d), (a, b, d, c), SPOTS[::-1],
            (a, b, c, list(d)), (a, b, c, ("d", "1", 1)), (a, b, c, ("d", 1, "1")), (a, b, c, ("d", True, 1)),
            (a, b, c, ("d", 1, True)), (a, b, c, ("d", 1)), (a, b, c, ("d", 1, 1, 1)), (a, b, c, ("e", 1, 1)),
            (a, b, c, ("d", 2, 2)), (a, b, c, a), (a, b, c, ("d", 1, None)), (a, b, c, ("D", 1, 1)), (a, b, c, None),
            (a, b, c, mock.ANY), mock.ANY, (), None, (a, b, c, ("d", 1, 0)), (a, b, c, ("d", 0, 0)), {"a": (0, 0)},
            {*SPOTS}, iter(SPOTS), "abcd", (SPOTS,), (a, b), (a, b, c, d, ("e", 1, 1)), (a, b, c, ("d", 5, 5)),
            (a, b, c, ("d", [1], 1)), (a, b, c, (["d"], 1, 1)), ("spots", SPOTS), (a, b, c, d, d),
            tuple((place, (x, y)) for place, x, y in SPOTS), (a, b, c, ("d", -1, -1)),
        ]
        for value in wrong + wrong_values():
            self.assert_bad("spots", NO_ABC, ("spots", value))

    def test_great_numbers(self):
        far = 10 ** 999
        spots = (("a", -far, -far), ("b", far, 1 - far), ("c", 0, far), ("d", 0, 0))
        self.assertEqual(check(self.book, NO_ABC, ("spots", spots)), "spots")
        self.assert_bad("spots", ABC, ("spots", spots))

    def test_spots_of_a_map_of_other_places(self):
        self.assert_bad("spots", NO_ABC, ("spots", SPOTS[:3]), Book(FOUR))
        self.assert_bad("spots", NO_ABC, ("spots", SPOTS), Book(THREE))
        self.assertEqual(check(Book(THREE), NO_ABC, ("spots", SPOTS[:3])), "spots")


class WhichErrorTest(Case):

    def test_no_claims_are_told_ahead(self):
        for value in wrong_claims():
            for facts in ((), (NEVER,), (ABC, NO_ABC)):
                book = Book(FOUR, facts)
                self.refuses(BadClaim, value, verdict, book)
                self.refuses(BadClaim, value, follows, book)
                for paper in (None, ("tree", ()), ("spots", ()), ("tree", None)):
                    self.assertIs(self.refused(BadClaim, check, book, value, paper).value, value)
        self.refuses(BadClaim, ("left", "a", "b", "d"), follows, Book(THREE))

    def test_a_quarrel_is_told_of_each_book_that_is_not_possible(self):
        for many in (3, 4, 5):
            for places, facts in quarrels(many, 20):
                book = Book(places, facts)
                for claim in (("all", ()), NEVER, ("left", *places[:3])):
                    for told in (
                            self.refused(Quarrel, verdict, book, claim), self.refused(Quarrel, follows, book, claim),
                            self.refused(Quarrel, check, book, claim, ("tree", ())),
                            self.refused(Quarrel, check, book, claim, None)):
                        self.assertIs(is_quarrel(book, told.tree), True)
                        self.assertTrue(is_shown(places, facts, NEVER, told.tree))
                        self.assertIs(shows(book, claim, told.tree), True)

    def test_a_quarrel_is_told_ahead_of_a_paper(self):
        book = Book(FOUR, [NEVER])
        for paper in (("tree", ()), ("spots", SPOTS), None, ("tree", None), ("spots", None), wide(3)):
            self.refused(Quarrel, check, book, ABC, paper)


if __name__ == "__main__":
    unittest.main()
