import unittest

from flagfloors import errors
from flagfloors.bodies import body
from flagfloors.covers import check_cover
from flagfloors.deeds import done
from flagfloors.desks import Desk
from flagfloors.errors import FlagError
from flagfloors.foldings import check_folding, foldings
from flagfloors.glue import glued
from flagfloors.names import check_name
from flagfloors.orders import reordered
from flagfloors.patterns import check_pattern
from flagfloors.recipes import check_recipe
from flagfloors.recipewords import named_recipe
from flagfloors.ringcovers import ring_cover
from flagfloors.texts import read_pattern

CUBE = ((0,), (0,), (0,), (4,), (3,))

ATTRIBUTES = {
    "NotPattern": ("rule", "place"),
    "NotOrder": (),
    "NotGlued": ("tile", "side"),
    "NotText": ("place",),
    "NotFolding": ("place",),
    "TooMany": ("limit",),
    "NotName": (),
    "NotRecipe": ("rule", "place"),
    "NotCover": (),
    "NotBall": (),
    "NotPlane": (),
    "NotDeed": (),
    "NotDone": ("place",),
    "NothingLeft": (),
}

RAISED = [
    ("NotPattern", {"rule": "tile", "place": 0}, check_pattern, ((0,), (0,), (0,), (0,), (3,))),
    ("NotPattern", {"rule": "form", "place": -1}, Desk, None),
    ("NotOrder", {}, reordered, CUBE, "tile", 0, 0),
    ("NotGlued", {"tile": 1, "side": 0}, glued, ((1, 2), (0, 3))),
    ("NotText", {"place": 3}, read_pattern, "0; x"),
    ("NotFolding", {"place": 0}, check_folding, CUBE, (1,)),
    ("TooMany", {"limit": 24}, foldings, tuple((k,) * 25 for k in (0, 0, 0, 4, 3))),
    ("NotName", {}, check_name, None),
    ("NotRecipe", {"rule": "word", "place": -1}, named_recipe, "none"),
    ("NotRecipe", {"rule": "step", "place": 0}, check_recipe, ((0,), (-2,), (-3,))),
    ("NotCover", {}, check_cover, CUBE, None),
    ("NotBall", {}, body, ((0,), (0,), (0,), (4,), (4,))),
    ("NotPlane", {}, ring_cover, CUBE),
    ("NotDeed", {}, done, CUBE, None),
    ("NotDone", {"place": 1}, Desk(CUBE).run, [("least",), None]),
    ("NothingLeft", {}, Desk(CUBE).undo),
    ("NothingLeft", {}, Desk(CUBE).redo),
]


class Errors(unittest.TestCase):
    def test_there_are_fourteen(self):
        own = [
            name
            for name, value in vars(errors).items()
            if isinstance(value, type) and value is not FlagError
        ]
        self.assertEqual(sorted(own), sorted(ATTRIBUTES))
        self.assertEqual(len(own), 14)

    def test_each_is_a_direct_subclass(self):
        self.assertEqual(FlagError.__bases__, (ValueError,))
        for name in ATTRIBUTES:
            self.assertEqual(getattr(errors, name).__bases__, (FlagError,), name)

    def test_none_is_a_subclass_of_another(self):
        for name in ATTRIBUTES:
            for other in ATTRIBUTES:
                if name != other:
                    self.assertFalse(issubclass(getattr(errors, name), getattr(errors, other)))

    def test_attributes_are_set_when_created(self):
        for name, attributes in ATTRIBUTES.items():
            values = ["word" if word == "rule" else 5 + k for k, word in enumerate(attributes)]
            made = getattr(errors, name)(*(values or ["why"]))
            self.assertEqual(
                {word: value for word, value in vars(made).items()},
                dict(zip(attributes, values)),
                name,
            )

    def test_each_is_caught_as_flag_error_and_value_error(self):
        for name, attributes in ATTRIBUTES.items():
            for base in (FlagError, ValueError):
                with self.assertRaises(base):
                    raise getattr(errors, name)(*([1] * len(attributes)))

    def test_each_is_raised_by_some_call(self):
        self.assertEqual({name for name, *_ in RAISED}, set(ATTRIBUTES))
        for name, attributes, call, *given in RAISED:
            with self.assertRaises(ValueError) as caught:
                call(*given)
            error = caught.exception
            self.assertIs(type(error), getattr(errors, name))
            self.assertIsInstance(error, FlagError)
            self.assertEqual(vars(error), attributes)
            self.assertEqual(tuple(attributes), ATTRIBUTES[name])
            for value in attributes.values():
                self.assertIn(type(value), (int, str))
            others = [other for other in ATTRIBUTES if other != name]
            self.assertEqual(len(others), 13)
            for other in others:
                self.assertNotIsInstance(error, getattr(errors, other))
