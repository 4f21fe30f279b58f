"""The interface: its modules, names and arguments as written."""

import inspect
import unittest
from importlib import import_module

FUNCTIONS = {
    "rows": {"is_row": ["thing"], "is_cut": ["row", "thing"], "pieces": ["row", "cut"], "sums_of": ["row", "cut"]},
    "greatest": {"fewest_pieces": ["row", "bound"], "long_cut": ["row", "bound"], "least_greatest": ["row", "many"]},
    "least": {"most_pieces": ["row", "bound"], "first_cut": ["row", "bound"], "greatest_least": ["row", "many"]},
    "counted": {"all_cuts": ["row", "many"], "cuts_between": ["row", "many", "low", "high"],
                "cut_at": ["row", "many", "low", "high", "place"]},
    "near": {"least_spread": ["row", "many"]},
    "squares": {"evenness": ["row", "cut"], "most_even": ["row", "many"], "all_even": ["row"]},
    "steep": {"at_price": ["row", "price"], "prices": ["row", "many"]},
    "papers": {"paper_of_greatest": ["row", "many"], "says_greatest": ["row", "many", "thing"],
               "paper_of_least": ["row", "many"], "says_least": ["row", "many", "thing"]},
    "rings": {"ring_sums": ["row", "places"], "ring_least_greatest": ["row", "many"]},
    "notes": {"show_row": ["row"], "show_cut": ["cut"], "read_row": ["text"]},
}

CLASSES = {
    ("live", "Live"): {
        "__init__": ["row"], "change": ["place", "number"], "put": ["place", "number"], "take": ["place"], "undo": [],
        "row": [], "stretch": ["begin", "end"], "least_greatest": ["many"], "greatest_least": ["many"],
        "most_even": ["many"],
    },
    ("desk", "Desk"): {"__init__": [], "say": ["words"]},
}


class Interface(unittest.TestCase):
    def test_functions(self):
        for module, names in FUNCTIONS.items():
            for name, arguments in names.items():
                with self.subTest(module=module, name=name):
                    function = getattr(import_module(f"piecebounds.{module}"), name)
                    self.assertEqual(list(inspect.signature(function).parameters), arguments)

    def test_classes(self):
        for (module, name), methods in CLASSES.items():
            found = getattr(import_module(f"piecebounds.{module}"), name)
            for method, arguments in methods.items():
                with self.subTest(name=name, method=method):
                    parameters = inspect.signature(getattr(found, method)).parameters
                    self.assertEqual(list(parameters), ["self"] + arguments)


if __name__ == "__main__":
    unittest.main()
