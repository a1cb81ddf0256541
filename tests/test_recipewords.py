import unittest

import plain_recipes
import samples
from flagfloors.applying import applied
from flagfloors.errors import FlagError, NotRecipe, NotText, TooMany
from flagfloors.following import followed
from flagfloors.recipes import check_recipe
from flagfloors.recipewords import WORDS, named_recipe, recipe_of_words

IN_ORDER = ("same", "dual", "middle", "raise", "thicken", "cut", "join", "expand", "bevel", "part")
CELLS = {"same": 1, "dual": 1, "middle": 2, "raise": 3, "thicken": 4, "cut": 3, "join": 2,
         "expand": 4, "bevel": 6, "part": 6}


class Words(unittest.TestCase):
    def test_the_ten_words(self):
        self.assertIs(type(WORDS), tuple)
        self.assertEqual(WORDS, IN_ORDER)

    def test_the_recipes_that_are_told(self):
        for word, recipe in (
            ("same", ((-1,), (-2,), (-3,))),
            ("dual", ((-3,), (-2,), (-1,))),
            ("middle", ((-2, -2), (-3, -1), (1, 0))),
            ("raise", ((-1, 2, 1), (1, 0, -1), (-3, -2, -2))),
            ("thicken", ((1, 0, -1, -1), (-3, 2, 1, -2), (-2, -2, 3, 2))),
        ):
            self.assertEqual(named_recipe(word), recipe)

    def test_the_recipes_of_several_words(self):
        for word, rows in plain_recipes.BY_WORDS.items():
            recipe = named_recipe(word)
            self.assertEqual(len(recipe[0]), CELLS[word])
            self.assertIs(check_recipe(recipe), recipe)
            for pattern in (samples.CUBE, samples.SWAP_0, samples.MIRRORED_SQUARE, samples.TORUS):
                expected = pattern
                for row in rows:
                    expected = plain_recipes.plain_applied(row, expected)
                self.assertEqual(applied(recipe, pattern), expected, word)
            expected = rows[0]
            for row in rows[1:]:
                expected = followed(expected, row)
            self.assertEqual(recipe, expected)

    def test_other_strings(self):
        for word in ("", " ", "Same", "same ", " dual", "dual dual", "du", "cutt", "raise\n", "1"):
            for _ in range(2):
                with self.assertRaises(NotRecipe) as caught:
                    named_recipe(word)
                self.assertEqual((caught.exception.rule, caught.exception.place), ("word", -1))
                self.assertIsInstance(caught.exception, FlagError)


class RecipeOfWords(unittest.TestCase):
    def test_one_word(self):
        for word in WORDS:
            self.assertEqual(recipe_of_words(word), named_recipe(word))

    def test_the_empty_text(self):
        self.assertEqual(recipe_of_words(""), ((-1,), (-2,), (-3,)))

    def test_several_words(self):
        for a in WORDS:
            for b in WORDS:
                if CELLS[a] * CELLS[b] <= 24:
                    self.assertEqual(recipe_of_words(a + " " + b),
                                     followed(named_recipe(a), named_recipe(b)))
        self.assertEqual(
            recipe_of_words("middle raise thicken"),
            followed(followed(named_recipe("middle"), named_recipe("raise")),
                     named_recipe("thicken")),
        )
        self.assertEqual(recipe_of_words("dual " * 50 + "dual"), named_recipe("dual"))
        self.assertEqual(len(recipe_of_words("part same dual expand")[0]), 24)

    def refused(self, text, place):
        for _ in range(2):
            with self.assertRaises(NotText) as caught:
                recipe_of_words(text)
            self.assertEqual(caught.exception.place, place, repr(text))

    def test_wrong_words(self):
        self.refused("what", 0)
        self.refused("dual what", 5)
        self.refused("dual what middle which", 5)
        self.refused("dual middle Raise", 12)
        self.refused("dual\tdual", 0)
        self.refused("dual, cut", 0)
        self.refused("cut dual\n", 4)

    def test_empty_words(self):
        self.refused(" ", 0)
        self.refused(" dual", 0)
        self.refused("  ", 0)
        self.refused("dual ", 5)
        self.refused("dual  cut", 5)
        self.refused("dual cut  ", 9)
        self.refused("dual   cut", 5)

    def test_too_many_cells(self):
        for text in ("part expand middle", "raise raise raise", "part part", "part bevel",
                     "same part dual thicken same middle"):
            for _ in range(2):
                with self.assertRaises(TooMany) as caught:
                    recipe_of_words(text)
                self.assertEqual(caught.exception.limit, 24)

    def test_wrong_words_come_ahead_of_too_many_cells(self):
        self.refused("part part what", 10)
        self.refused("part part part ", 15)
        self.refused("part part  part", 10)
