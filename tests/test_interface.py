"""The names and parameters of the interface, each one in the file that lists it."""

import importlib
import inspect
import unittest

FUNCTIONS = {
    "places": {
        "need_places": ["thing"], "is_lot": ["places", "thing"], "threes": ["places"], "ways": ["places"],
        "rules": ["places"],
    },
    "maps": {"from_spots": ["spots"], "spots_of": ["chart"], "all_maps": ["places"]},
    "looks": {
        "border": ["chart"], "layers": ["chart"], "is_within": ["chart", "place", "lot"],
        "do_cross": ["chart", "one", "other"], "sight": ["chart", "place"], "can_cut": ["chart", "lot"],
        "meeting": ["chart", "four"],
    },
    "nets": {
        "all_nets": ["chart"], "is_net": ["chart", "thing"], "exchanges": ["chart", "net"],
        "exchanged": ["chart", "net", "pair"], "fewest_exchanges": ["chart", "one", "other"],
        "check_exchanges": ["chart", "one", "other", "thing"],
    },
    "rounds": {
        "all_rounds": ["places"], "crossings": ["chart", "tour"], "clean_rounds": ["chart"],
        "undone": ["chart", "tour"], "longest_undoing": ["chart", "tour"],
        "check_undoing": ["chart", "tour", "thing"],
    },
    "claims": {
        "need_claim": ["places", "thing"], "holds": ["chart", "claim"], "at_border": ["places", "place"],
        "lies_within": ["places", "place", "lot"], "ways_cross": ["places", "one", "other"],
        "is_cut": ["places", "lot"],
    },
}


class InterfaceTest(unittest.TestCase):

    def test_functions_and_their_parameters(self):
        for file, functions in FUNCTIONS.items():
            module = importlib.import_module("leftmaps." + file)
            for name, parameters in functions.items():
                function = getattr(module, name)
                self.assertEqual(function.__module__, "leftmaps." + file)
                self.assertEqual(list(inspect.signature(function).parameters), parameters, name)


if __name__ == "__main__":
    unittest.main()
