"""The interface of the document: each name with its arguments, each method in its class itself."""

import importlib
import inspect
import unittest

from nearlaid import errors

FUNCTIONS = {
    "nearlaid.numbers.fractions": (
        "fraction above below", "plus one other", "less one other", "times one other", "over one other",
        "compared one other", "number_shown one", "read_number text", "product row other",
    ),
    "nearlaid.numbers.systems": ("solved system many",),
    "nearlaid.tables.texts": ("read_table text", "table_shown table", "left_of table weights", "far_of table weights"),
    "nearlaid.tables.nearest": ("nearest table", "flat_ways table", "is_nearest table weights", "farther table weights"),
    "nearlaid.tables.ties": ("nearest_tied table ties", "tied_shown table ties weights pulls"),
    "nearlaid.corners.corners": ("least_corner costs rows", "corner_shown costs rows told"),
    "nearlaid.corners.bounds": ("nearest_bound table ties bounds", "bound_shown table ties bounds told"),
    "nearlaid.corners.gaps": (
        "nearest_plain table", "nearest_widest table", "plain_shown table weights paper",
        "widest_shown table weights paper",
    ),
    "nearlaid.paths.moving": ("moving_knots table other bounds", "moving_shown table other bounds knots paper"),
    "nearlaid.tables.counted": (
        "nearest_counted table counts", "rest_at table row w", "rest_of table row", "several_wishes table wishes",
    ),
    "nearlaid.tables.sums": (
        "sums_of table", "sums_joined one other", "sums_parted one other", "by_sums sums", "table_of sums",
    ),
    "nearlaid.choices.few": ("best_choices table", "paper_of table k", "choice_shown table k columns paper"),
    "nearlaid.tables.uprights": ("uprights table", "put_together pairs", "brings table order"),
    "nearlaid.bodies.bodies": (
        "nearest_point body point", "point_shown body point weights", "two_bodies one other", "two_shown one other told",
    ),
    "nearlaid.choices.wholes": ("nearest_wholes table bounds", "wholes_shown table bounds weights paper"),
}
CLASSES = {
    ("nearlaid.kept", "Kept"): (
        "__init__ names", "put_row row wish", "take_row number", "change_wish number wish", "put_column name numbers",
        "take_column name", "table", "numbers", "nearest", "share number", "out number",
    ),
    ("nearlaid.whole", "Desk"): ("__init__", "ask line"),
}
REFUSALS = "NoNumber NoName NoRow NoAsk NoBound TooMany NoSums NoTable".split()


def arguments(function):
    return list(inspect.signature(function).parameters)


class Interface(unittest.TestCase):
    def test_functions(self):
        for module, lines in FUNCTIONS.items():
            for line in lines:
                name, *names = line.split()
                function = getattr(importlib.import_module(module), name)
                self.assertEqual(arguments(function), names, name)
                self.assertEqual(function.__module__, module)

    def test_classes(self):
        for (module, name), lines in CLASSES.items():
            made = getattr(importlib.import_module(module), name)
            for line in lines:
                method, *names = line.split()
                self.assertIn(method, vars(made))
                self.assertEqual(arguments(vars(made)[method]), ["self", *names], method)

    def test_refusals(self):
        self.assertEqual(errors.NearError.__bases__, (ValueError,))
        for name in REFUSALS:
            refusal = getattr(errors, name)
            self.assertEqual(refusal.__bases__, (errors.NearError,))
            self.assertIsInstance(refusal(3 if name == "NoTable" else "a text"), errors.NearError)
        self.assertEqual(errors.NoTable(3).row, 3)


if __name__ == "__main__":
    unittest.main()
