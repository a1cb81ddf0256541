import unittest

from flagfloors import errors
from flagfloors.errors import FlagError

ATTRIBUTES = {
    "NotPattern": ("rule", "place"),
    "NotOrder": (),
    "NotGlued": ("tile", "side"),
    "NotText": ("place",),
    "NotFolding": ("place",),
    "TooMany": ("limit",),
    "NotName": (),
    "NotRecipe": ("rule", "place"),
    "NotCover": (),
    "NotBall": (),
    "NotPlane": (),
    "NotDeed": (),
    "NotDone": ("place",),
    "NothingLeft": (),
}


class Errors(unittest.TestCase):
    def test_there_are_fourteen(self):
        own = [
            name
            for name, value in vars(errors).items()
            if isinstance(value, type) and value is not FlagError
        ]
        self.assertEqual(sorted(own), sorted(ATTRIBUTES))
        self.assertEqual(len(own), 14)

    def test_each_is_a_direct_subclass(self):
        self.assertEqual(FlagError.__bases__, (ValueError,))
        for name in ATTRIBUTES:
            self.assertEqual(getattr(errors, name).__bases__, (FlagError,), name)

    def test_none_is_a_subclass_of_another(self):
        for name in ATTRIBUTES:
            for other in ATTRIBUTES:
                if name != other:
                    self.assertFalse(issubclass(getattr(errors, name), getattr(errors, other)))

    def test_attributes_are_set_when_created(self):
        for name, attributes in ATTRIBUTES.items():
            values = ["word" if word == "rule" else 5 + k for k, word in enumerate(attributes)]
            made = getattr(errors, name)(*(values or ["why"]))
            self.assertEqual(
                {word: value for word, value in vars(made).items()},
                dict(zip(attributes, values)),
                name,
            )

    def test_each_is_caught_as_flag_error_and_value_error(self):
        for name, attributes in ATTRIBUTES.items():
            for base in (FlagError, ValueError):
                with self.assertRaises(base):
                    raise getattr(errors, name)(*([1] * len(attributes)))
