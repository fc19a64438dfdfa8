"""The interface as a whole: each name is there, with its arguments in their order; point 1 over the program."""

import importlib
import inspect
import pkgutil
import unittest

import rentshare
from houses import FLAT
from rentshare.errors import NoLine
from rentshare.run import run

FUNCTIONS = {
    "ratios": {"lowest": "parts rows", "less": "one other"},
    "amounts": {"show_amount": "number", "show_share": "number parts", "read_amount": "text"},
    "house": {"House": "beds worths rent", "lying": "house way", "open_rooms": "house way", "is_way": "house way",
              "worth_of": "house way"},
    "best": {"best_way": "house"},
    "fair": {"paid": "house way prices", "shares": "house way prices", "breach": "house way prices"},
    "aims": {"Aim": "house way", "Worst": "house way", "Even": "house way"},
    "chains": {"chain_gain": "aim chain i", "greatest": "aim", "bound": "aim chains"},
    "divide": {"divide": "aim", "share_out": "house word"},
    "ways": {"level_rooms": "house", "all_ways": "house"},
    "purses": {"row_bound": "house way purses row i", "within": "house way purses", "within_any": "house purses"},
    "keep": {"kept_way": "house old"},
    "near": {"near_count": "way wings pairs", "near_way": "house wings pairs"},
    "sheet": {"read_sheet": "text"},
    "run": {"run": "text"},
    "errors": {"NoLine": "line"},
}

METHODS = {
    ("house", "House"): {"people": "self", "rooms": "self"},
    ("aims", "Aim"): {"through": "self a b", "gain": "self a r b", "whole": "self", "price": "self i level parts"},
    ("aims", "Worst"): {"through": "self a b", "gain": "self a r b", "whole": "self", "price": "self i level parts"},
    ("aims", "Even"): {"through": "self a b", "gain": "self a r b", "whole": "self", "price": "self i level parts"},
}


def module(name):
    return importlib.import_module(f"rentshare.{name}")


def arguments(thing):
    return " ".join(inspect.signature(thing).parameters)


class Interface(unittest.TestCase):
    def test_functions_and_classes(self):
        for place, names in FUNCTIONS.items():
            for name, due in names.items():
                self.assertEqual(arguments(getattr(module(place), name)), due, (place, name))

    def test_methods(self):
        for (place, name), methods in METHODS.items():
            for method, due in methods.items():
                self.assertEqual(arguments(getattr(getattr(module(place), name), method)), due, (name, method))

    def test_aims_stand_under_aim(self):
        aims = module("aims")
        self.assertTrue(issubclass(aims.Worst, aims.Aim) and issubclass(aims.Even, aims.Aim))

    def test_nothing_is_kept_between_askings(self):
        # What stands at the files' tops is the same behind runs with all sorts of orders and refusals.
        def tops():
            found = {}
            for part in pkgutil.iter_modules(rentshare.__path__):
                for name, thing in vars(module(part.name)).items():
                    if isinstance(thing, (list, tuple, dict, int, str)) and not name.startswith("__"):
                        found[(part.name, name)] = repr(thing)
            return found

        before = tops()
        run(FLAT + "\nshare\neven\nnear ann bob\nclose\nwithin\npurse ann 0.00\nwithin\nleave ann\nleave ann\nfree bob")
        self.assertRaises(NoLine, run, "bad")
        self.assertEqual(tops(), before)
        self.assertGreater(len(before), 5)


if __name__ == "__main__":
    unittest.main()
