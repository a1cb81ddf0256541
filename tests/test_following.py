import unittest
from itertools import permutations

import plain_recipes
import plain_surfaces
import samples
from flagfloors.applying import applied
from flagfloors.errors import TooMany
from flagfloors.following import are_same_recipes, followed, least_recipe
from flagfloors.recipes import check_recipe
from flagfloors.recipewords import WORDS, named_recipe

SMALL = plain_recipes.valid_recipes(2) + plain_recipes.valid_recipes(3)[14::5]
PATTERNS = (samples.CUBE, samples.SWAP_0, samples.TORUS, samples.small_patterns(3)[-1],
            samples.small_patterns(4)[-30])
FIVE = ((-1, -1, -2, -2, -3), (-1, 2, 1, 4, 3), (1, 0, 3, 2, -1))


def named(text):
    recipe = named_recipe("same")
    for word in text.split():
        recipe = followed(recipe, named_recipe(word))
    return recipe


def all_numberings(recipe):
    return [
        plain_recipes.recipe_numbered(recipe, listing)
        for listing in permutations(range(len(recipe[0])))
    ]


def all_walks(recipe):
    """A recipe numbered along the walk from each cell."""
    within = plain_recipes.inner(recipe)
    found = []
    for cell in range(len(recipe[0])):
        listing = [cell]
        for at in listing:
            for step in within:
                if step[at] not in listing:
                    listing.append(step[at])
        found.append(plain_recipes.recipe_numbered(recipe, listing))
    return found


class Followed(unittest.TestCase):
    def test_applied_one_after_the_other(self):
        for a in SMALL:
            for b in SMALL:
                both = followed(a, b)
                self.assertIs(check_recipe(both), both)
                for pattern in PATTERNS:
                    self.assertEqual(applied(both, pattern), applied(b, applied(a, pattern)))

    def test_named_ones(self):
        for a in WORDS:
            for b in WORDS:
                first, second = named_recipe(a), named_recipe(b)
                if len(first[0]) * len(second[0]) <= 24:
                    both = followed(first, second)
                    self.assertIs(check_recipe(both), both)
                    for pattern in (samples.CUBE, samples.MIRRORED_SQUARE, samples.TORUS):
                        self.assertEqual(applied(both, pattern),
                                         applied(second, applied(first, pattern)), (a, b))

    def test_mirrors_and_both_ways_of_gluing(self):
        for pattern in plain_surfaces.many_patterns()[::29]:
            if len(pattern[0]) * 12 <= 240:
                first, second = named_recipe("thicken"), named_recipe("cut")
                self.assertEqual(applied(followed(first, second), pattern),
                                 applied(second, applied(first, pattern)))

    def test_cell_d_within_cell_c(self):
        self.assertEqual(followed(plain_recipes.MIDDLE, plain_recipes.DUAL),
                         ((1, 0), (-3, -1), (-2, -2)))
        self.assertEqual(followed(plain_recipes.DUAL, plain_recipes.MIDDLE),
                         ((-2, -2), (-1, -3), (1, 0)))
        self.assertEqual(followed(plain_recipes.MIDDLE, plain_recipes.MIDDLE),
                         ((-3, -3, -1, -1), (2, -2, 0, -2), (1, 0, 3, 2)))

    def test_same_changes_nothing(self):
        for recipe in SMALL:
            self.assertEqual(followed(recipe, plain_recipes.SAME), recipe)
            self.assertEqual(followed(plain_recipes.SAME, recipe), recipe)

    def test_24_cells(self):
        for a, b, c in (("part", "expand", 24), ("expand", "part", 24), ("thicken", "bevel", 24)):
            found = followed(named_recipe(a), named_recipe(b))
            self.assertEqual(len(found[0]), c)
            self.assertIs(check_recipe(found), found)
        pattern = samples.SWAP_0
        found = followed(named_recipe("part"), named_recipe("expand"))
        self.assertEqual(applied(found, pattern),
                         applied(named_recipe("expand"), applied(named_recipe("part"), pattern)))

    def test_25_cells_and_more(self):
        check_recipe(FIVE)
        great = followed(named_recipe("part"), named_recipe("expand"))
        pairs = [(FIVE, FIVE), (great, named_recipe("middle")), (named_recipe("middle"), great),
                 (FIVE, named_recipe("part")), (great, great)]
        nine = named("raise raise")
        pairs += [(nine, named_recipe("raise")), (named_recipe("raise"), nine)]
        for a, b in pairs:
            for _ in range(2):
                with self.assertRaises(TooMany) as caught:
                    followed(a, b)
                self.assertEqual(caught.exception.limit, 24)


class Least(unittest.TestCase):
    def test_the_same_for_each_numbering(self):
        for recipe in SMALL + plain_recipes.valid_recipes(4)[200::211] + (FIVE,):
            found = least_recipe(recipe)
            self.assertEqual(found, min(all_walks(recipe)))
            self.assertIs(check_recipe(found), found)
            self.assertEqual(least_recipe(found), found)
            for other in all_numberings(recipe):
                self.assertEqual(least_recipe(other), found)
                self.assertIs(are_same_recipes(recipe, other), True)

    def test_great_ones(self):
        recipe = followed(named_recipe("part"), named_recipe("expand"))
        found = least_recipe(recipe)
        self.assertEqual(found, min(all_walks(recipe)))
        listing = tuple((7 * k + 5) % 24 for k in range(24))
        self.assertEqual(least_recipe(plain_recipes.recipe_numbered(recipe, listing)), found)

    def test_same_or_not(self):
        recipes = [r for size in (1, 2) for r in plain_recipes.valid_recipes(2)
                   if len(r[0]) == size] + list(plain_recipes.valid_recipes(3)[14::3])
        for a in recipes:
            numberings = all_numberings(a)
            for b in recipes:
                self.assertIs(are_same_recipes(a, b), b in numberings, (a, b))

    def test_words_that_do_the_same(self):
        for a, b, same in (
            ("dual dual", "same", True), ("dual middle", "middle", True),
            ("join", "middle dual", True), ("dual join", "join", True),
            ("dual expand", "expand", True), ("bevel", "dual bevel", True),
            ("cut", "dual cut", False), ("raise", "cut", False), ("dual", "same", False),
            ("middle", "join", False), ("part", "bevel", False), ("middle", "raise", False),
            ("dual cut dual", "raise", True), ("cut", "dual raise dual", True),
            ("raise dual", "dual cut", True),
        ):
            self.assertIs(are_same_recipes(named(a), named(b)), same, (a, b))
            self.assertIs(are_same_recipes(named(b), named(a)), same, (a, b))
