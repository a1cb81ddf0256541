import unittest
from itertools import product

import plain_recipes
import samples
from flagfloors.errors import FlagError, NotRecipe
from flagfloors.following import followed
from flagfloors.recipes import check_recipe, recipe_breach
from flagfloors.recipewords import WORDS, named_recipe

# Four cells that are glued to a surface without a border, with surface count 1.
CLOSED = samples.plain_glued(((1, 1),))[:3]

BREAKS = {
    ("step", 0): [
        ((-4,), (-2,), (-3,)), ((0,), (-2,), (-3,)), ((1,), (-2,), (-3,)),
        ((-1,), (-2,), (-10 ** 30,)), ((1, -1), (-2, -2), (-3, -3)),
        ((-1, -1, -1), (1, 2, 0), (-3, -3, -3)),
    ],
    ("step", 1): [
        ((-1, 5), (-2, -2), (-3, -3)), ((-1, 1), (-2, -2), (-3, -3)),
        ((-1, -1), (-2, 0), (-3, -3)), ((-1, -1), (-2, -2), (-3, 2)),
        ((-1, 2, -3), (-2, -2, -2), (-3, -3, -3)),
    ],
    ("step", 2): [((-1, -1, -1), (-2, -2, -2), (-3, -3, 3)), ((1, 0, 0), (-2,) * 3, (-3,) * 3)],
    ("square", 0): [
        ((-1,), (-3,), (-2,)), ((-1,), (-2,), (-1,)), ((-2,), (-2,), (-3,)),
        ((1, 0), (-2, -2), (1, 0)), ((1, 0), (-2, -2), (-3, -1)), ((-2, -3), (-1, -1), (1, 0)),
        ((1, 0, -1), (-2, -2, -2), (-3, 2, 1)),
        ((1, 0, 3, 2, 5, 4), (-2,) * 6, (5, 2, 1, 4, 3, 0)),
    ],
    ("square", 1): [((-1, -1), (1, 0), (-3, -1)), ((-1, 2, 1), (1, 0, -1), (-3, 2, 1))],
    ("whole", 1): [((-1, -1), (-2, -2), (-3, -3)), ((-1, -1, -1), (2, -2, 0), (-3, -3, -3))],
    ("whole", 2): [((-1, -1, -1), (1, 0, -2), (-3, -3, -3)), ((1, 0, -1), (-1, -2, -2), (-3,) * 3)],
    ("disc", -1): [
        ((-1, -1, 3, 2), (2, 3, 0, 1), (1, 0, -1, -1)), ((3, 2, 1, 0), (3, 2, 1, 0), (2, 3, 0, 1)),
        samples.plain_glued(((1, -1),))[:3],
    ],
    ("rim", -1): [
        ((-1,), (-1,), (-3,)), ((-1,), (-3,), (-3,)), ((-1, -1), (1, 0), (-3, -3)), CLOSED,
        ((-1, -1, -1), (1, 0, -1), (-3, 2, 1)),
    ],
}


class Breach(unittest.TestCase):
    def test_each_rule_with_its_place(self):
        for found, values in BREAKS.items():
            for value in values:
                self.assertEqual(plain_recipes.plain_breach(value), found, value)
                self.assertEqual(recipe_breach(value), found, value)
                self.assertEqual(recipe_breach(value), found, value)

    def test_one_cell(self):
        for rows in product(range(-5, 3), repeat=3):
            value = tuple((entry,) for entry in rows)
            self.assertEqual(recipe_breach(value), plain_recipes.plain_breach(value), value)

    def test_two_cells(self):
        rows = list(product(range(-4, 3), repeat=2))
        for place, value in enumerate(product(rows, repeat=3)):
            if place % 5 == 0:
                self.assertEqual(recipe_breach(value), plain_recipes.plain_breach(value), value)

    def test_cells_that_keep_steps_and_squares(self):
        values = [value for size in (1, 2, 3) for value in plain_recipes.small_recipes(size)]
        values += plain_recipes.small_recipes(4)[::7]
        kinds = set()
        for value in values:
            found = recipe_breach(value)
            self.assertEqual(found, plain_recipes.plain_breach(value), value)
            kinds.add(found)
        self.assertLessEqual({None, ("whole", 2), ("disc", -1), ("rim", -1)}, kinds)

    def test_sides_that_are_crossed_by_turns(self):
        # All three sides are crossed, but one of them at two places that lie apart.
        found = [
            value for value in plain_recipes.small_recipes(3) + plain_recipes.small_recipes(4)[::7]
            if recipe_breach(value) == ("rim", -1)
            and all(side in sum(value, ()) for side in (-1, -2, -3))
        ]
        self.assertTrue(found)
        for value in found:
            self.assertFalse(plain_recipes.has_rim(value))

    def test_24_and_25_cells(self):
        great = followed(named_recipe("part"), named_recipe("expand"))
        self.assertEqual(len(great[0]), 24)
        self.assertIsNone(recipe_breach(great))
        self.assertIsNone(plain_recipes.plain_breach(great))
        self.assertEqual(recipe_breach(((-1,) * 24, (-2,) * 24, (-3,) * 24)), ("whole", 1))
        self.assertEqual(recipe_breach(((-1,) * 25, (-2,) * 25, (-3,) * 25)), ("form", -1))
        longer = tuple(step + (side,) for step, side in zip(great, (-1, -2, -3)))
        self.assertEqual(recipe_breach(longer), ("form", -1))

    def test_other_forms(self):
        for value in (
            None, 0, True, "", "abc", b"abc", [], {}, set(), object(), 1.5, (), ((), (), ()),
            ((-1,), (-2,)), ((-1,), (-2,), (-3,), (-3,)), [(-1,), (-2,), (-3,)],
            ((-1,), [-2], (-3,)), ((-1,), (-2,), (-3, -3)), ((-1, -1), (-2,), (-3,)),
            ((-1,), (-2,), "3"), ((-1,), (-2,), (None,)), ((-1,), (-2.0,), (-3,)), (-1, -2, -3),
            (((-1,),), ((-2,),), ((-3,),)), ((True, False), (-2, -2), (-3, -3)),
            ((1, False), (-2, -2), (-3, -3)), ((-1,), None, (-3,)),
        ):
            self.assertEqual(recipe_breach(value), ("form", -1), value)

    def test_two_rules_at_once(self):
        for value, found in (
            # No integer behind a wrong step; a wrong step behind wrong squares; and so on.
            (((5, True), (-2, -2), (-3, -3)), ("form", -1)),
            (((-1,) * 25, (-2,) * 25, (7,) * 25), ("form", -1)),
            (((-1, -1, -1), (-2, -2, 9), (-1, -1, -1)), ("step", 2)),
            (((-1, -1), (-2, -2), (-3, -1)), ("square", 1)),
            (((-1, -1, -1), (1, 0, -1), (-3, -3, -1)), ("square", 2)),
            (((-1, -1), (-1, -1), (-3, -3)), ("whole", 1)),
            (((3, 2, 1, 0, -1), (3, 2, 1, 0, -1), (2, 3, 0, 1, -3)), ("whole", 4)),
            (((-1, -1, 3, 2), (2, 3, 0, 1), (1, 0, -1, -1)), ("disc", -1)),
        ):
            self.assertEqual(plain_recipes.plain_breach(value), found, value)
            self.assertEqual(recipe_breach(value), found, value)

    def test_the_named_recipes(self):
        for word in WORDS:
            self.assertIsNone(recipe_breach(named_recipe(word)), word)
            self.assertIsNone(plain_recipes.plain_breach(named_recipe(word)), word)


class CheckRecipe(unittest.TestCase):
    def test_the_very_value(self):
        for value in plain_recipes.valid_recipes(3):
            self.assertIs(check_recipe(value), value)

    def test_rule_and_place(self):
        for found, values in list(BREAKS.items()) + [(("form", -1), [None, (), ((), (), ())])]:
            for value in values:
                with self.assertRaises(NotRecipe) as caught:
                    check_recipe(value)
                self.assertEqual((caught.exception.rule, caught.exception.place), found)
                self.assertIsInstance(caught.exception, FlagError)
