"""The example of the document, by itself and as it stands there, and those of README.md."""

import doctest
import pathlib
import unittest

from leftmaps.books import Book
from leftmaps.claims import at_border, holds
from leftmaps.looks import border, is_within
from leftmaps.maps import all_maps, from_spots
from leftmaps.nets import all_nets
from leftmaps.rounds import clean_rounds
from leftmaps.texts import claim_text
from leftmaps.verdicts import check, follows, verdict

README = pathlib.Path(__file__).resolve().parent.parent / "README.md"
DOCUMENT = README.parent.parent / "shared" / "DOC.md"


class ExampleTest(unittest.TestCase):

    def test_example_of_the_document(self):
        places = ("a", "b", "c", "d")
        view = from_spots([("a", 0, 0), ("b", 4, 0), ("c", 0, 4), ("d", 1, 1)])
        self.assertEqual(view.places, places)
        self.assertEqual(border(view), ("a", "b", "c"))
        self.assertIs(is_within(view, "d", ("a", "b", "c")), True)
        net = (("a", "b"), ("a", "c"), ("a", "d"), ("b", "c"), ("b", "d"), ("c", "d"))
        self.assertEqual(all_nets(view), (net,))
        clean = (("a", "b", "c", "d"), ("a", "b", "d", "c"), ("a", "c", "b", "d"))
        self.assertEqual(clean_rounds(view), clean)
        self.assertEqual(len(all_maps(places)), 14)
        book = Book(places, [("left", "a", "b", "d"), ("left", "b", "c", "d"), ("left", "c", "a", "d")])
        self.assertIs(follows(book, ("left", "a", "b", "c")), True)
        self.assertIs(follows(book, at_border(places, "d")), False)
        self.assertEqual(check(book, ("left", "a", "b", "c"), verdict(book, ("left", "a", "b", "c"))), "tree")
        self.assertEqual(claim_text(places, ("not", ("left", "b", "a", "d"))), "not[ b a : d ]")

    def test_its_claims_hold_of_its_map(self):
        places = ("a", "b", "c", "d")
        view = from_spots([("a", 0, 0), ("b", 4, 0), ("c", 0, 4), ("d", 1, 1)])
        for atom in ("abd", "bcd", "cad", "abc"):
            self.assertIs(holds(view, ("left", *atom)), True)
        self.assertIs(holds(view, at_border(places, "d")), False)
        self.assertIs(holds(view, ("not", ("left", "b", "a", "d"))), True)

    @unittest.skipUnless(DOCUMENT.is_file(), "the document is not beside the project")
    def test_examples_as_they_stand_in_the_document(self):
        examples = DOCUMENT.read_text().partition("\n# Examples\n")[2].replace("```", "")
        found = doctest.DocTestParser().get_doctest(examples, {}, "DOC.md", str(DOCUMENT), 0)
        told = doctest.DocTestRunner().run(found)
        self.assertGreater(told.attempted, 15)
        self.assertEqual(told.failed, 0)

    def test_examples_of_the_readme(self):
        found = doctest.testfile(str(README), module_relative=False)
        self.assertGreater(found.attempted, 20)
        self.assertEqual(found.failed, 0)


if __name__ == "__main__":
    unittest.main()
