"""Each name of the interface stands in its own file, with its own arguments."""

import importlib
import inspect
import unittest

INTERFACE = {
    "ratios": [
        "ratio(top, bottom)", "plus(a, b)", "minus(a, b)", "times(a, b)", "over(a, b)", "sign_of(a)",
    ],
    "patterns": ["breach(value)", "check_pattern(value)", "size_of(pattern)"],
    "classes": [
        "class_of(pattern, flag, i, j)", "classes(pattern, i, j)", "round_of(pattern, flag, i, j)",
        "order_of(pattern, flag, i, j)", "turn_of(pattern, flag, i, j)",
        "is_mirrored(pattern, flag, i, j)", "walked(pattern, flag, steps)",
    ],
    "numberings": ["renumbered(pattern, listing)", "walk(pattern, flag)", "least(pattern)"],
    "orders": ["reordered(pattern, word, flag, order)"],
    "glue": ["glued(tiles)"],
    "texts": ["written(pattern)", "read_pattern(text)"],
    "leads": ["leads(a, b)", "are_alike(a, b)", "selves(pattern)"],
    "foldings": [
        "check_folding(pattern, value)", "folded(pattern, folding)", "is_finer(a, b)", "met(a, b)",
        "joined(a, b)", "foldings(pattern)", "coarsest(pattern)",
    ],
    "commons": ["common_cover(a, b)"],
}


class Interface(unittest.TestCase):
    def test_functions(self):
        for file, heads in INTERFACE.items():
            module = importlib.import_module("flagfloors." + file)
            for head in heads:
                name = head.partition("(")[0]
                found = getattr(module, name)
                self.assertTrue(inspect.isfunction(found), head)
                self.assertEqual(found.__module__, module.__name__, head)
                self.assertEqual(name + str(inspect.signature(found)), head)
