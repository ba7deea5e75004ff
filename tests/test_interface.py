"""The names and parameters of the interface, each one defined in the file, and the class, that lists it."""

import importlib
import inspect
import unittest

FUNCTIONS = {
    "places": {
        "need_places": ["thing"], "is_lot": ["places", "thing"], "threes": ["places"], "ways": ["places"],
        "rules": ["places"],
    },
    "maps": {"from_spots": ["spots"], "spots_of": ["chart"], "all_maps": ["places"]},
    "looks": {
        "border": ["chart"], "layers": ["chart"], "is_within": ["chart", "place", "lot"],
        "do_cross": ["chart", "one", "other"], "sight": ["chart", "place"], "can_cut": ["chart", "lot"],
        "meeting": ["chart", "four"],
    },
    "nets": {
        "all_nets": ["chart"], "is_net": ["chart", "thing"], "exchanges": ["chart", "net"],
        "exchanged": ["chart", "net", "pair"], "fewest_exchanges": ["chart", "one", "other"],
        "check_exchanges": ["chart", "one", "other", "thing"],
    },
    "rounds": {
        "all_rounds": ["places"], "crossings": ["chart", "tour"], "clean_rounds": ["chart"],
        "undone": ["chart", "tour"], "longest_undoing": ["chart", "tour"],
        "check_undoing": ["chart", "tour", "thing"],
    },
    "claims": {
        "need_claim": ["places", "thing"], "holds": ["chart", "claim"], "at_border": ["places", "place"],
        "lies_within": ["places", "place", "lot"], "ways_cross": ["places", "one", "other"],
        "is_cut": ["places", "lot"],
    },
    "trees": {
        "closed": ["places", "known"], "judged": ["known", "claim"], "is_quarrel": ["book", "thing"],
        "shows": ["book", "claim", "thing"],
    },
    "verdicts": {
        "possible": ["book"], "verdict": ["book", "claim"], "follows": ["book", "claim"],
        "check": ["book", "claim", "paper"],
    },
    "bits": {
        "set_of": ["places", "claim"], "left_by": ["book"], "maps_in": ["places", "number"],
        "follows_by_bits": ["book", "claim"],
    },
    "questions": {
        "next_question": ["book"], "fewest": ["book", "claim"], "plan": ["book", "claim"],
        "is_plan": ["book", "claim", "thing"], "sure_places": ["book"],
    },
    "facts": {
        "needless": ["book"], "least_facts": ["book", "claim"], "alike": ["one", "other"], "parted": ["one", "other"],
    },
    "walk": {"tried": ["walk", "function"]},
    "texts": {
        "claim_text": ["places", "claim"], "read_claim": ["places", "text"], "book_text": ["book"],
        "read_book": ["text"], "spots_text": ["spots"], "read_spots": ["text"],
    },
}
CLASSES = {
    "maps": {"Map": {
        "__init__": ["places", "turns"], "__len__": [], "__eq__": ["other"], "left": ["a", "b", "c"], "mirrored": [],
        "only": ["lot"], "renamed": ["words"], "grown": ["word"],
    }},
    "books": {"Book": {
        "__init__": ["places", "facts"], "__len__": [], "__getitem__": ["at"], "__eq__": ["other"], "adding": ["claim"],
        "without": ["number"], "keeps": ["chart"],
    }},
    "walk": {"Walk": {
        "__init__": ["book"], "__len__": [], "__eq__": ["other"], "many": [], "answer": ["three", "is_left"],
        "learn": ["claim"], "undo": ["many"], "surely": ["three"], "ask": [], "trial": [],
    }},
}
DEFAULTS = {("books", "Book", "__init__", "facts"): (), ("walk", "Walk", "undo", "many"): 1}


class InterfaceTest(unittest.TestCase):

    def test_functions_and_their_parameters(self):
        for file, functions in FUNCTIONS.items():
            module = importlib.import_module("leftmaps." + file)
            for name, parameters in functions.items():
                function = getattr(module, name)
                self.assertEqual(function.__module__, "leftmaps." + file)
                self.assertEqual(function.__qualname__, name)
                self.assertEqual(list(inspect.signature(function).parameters), parameters, name)
                for parameter in inspect.signature(function).parameters.values():
                    self.assertIs(parameter.default, parameter.empty)

    def test_each_class_defines_its_methods_itself(self):
        for file, classes in CLASSES.items():
            module = importlib.import_module("leftmaps." + file)
            for name, methods in classes.items():
                found = getattr(module, name)
                self.assertEqual(found.__module__, "leftmaps." + file)
                for method, parameters in methods.items():
                    self.assertIn(method, vars(found), name)
                    signature = inspect.signature(vars(found)[method])
                    self.assertEqual(list(signature.parameters), ["self", *parameters], (name, method))
                    for parameter in parameters:
                        default = DEFAULTS.get((file, name, method, parameter), inspect.Parameter.empty)
                        self.assertEqual(signature.parameters[parameter].default, default, (name, method))


if __name__ == "__main__":
    unittest.main()
