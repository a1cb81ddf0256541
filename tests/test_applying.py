import unittest
from fractions import Fraction

import plain_recipes
import plain_surfaces
import samples
from flagfloors.applying import applied, cell_counts, weights
from flagfloors.errors import TooMany
from flagfloors.names import name_of
from flagfloors.orders import reordered
from flagfloors.patterns import breach
from flagfloors.ratios import minus, plus, times
from flagfloors.recipewords import WORDS, named_recipe
from flagfloors.surfaces import flag_sum

CUBE_48 = samples.plain_glued(samples.CUBE_TILES)
TETRAHEDRON_24 = samples.plain_glued(samples.TETRAHEDRON_TILES)
KLEIN = samples.plain_glued(((1, 2, -1, 2),))
PATTERNS = [p for p in plain_surfaces.many_patterns() if len(p[0]) <= 40][::3] + [
    samples.CUBE, samples.TORUS, samples.MIRRORED_SQUARE, KLEIN,
]

# How many tiles, edges and corners the cube has behind each recipe.
CUBE_PARTS = {
    "same": (6, 12, 8), "dual": (8, 12, 6), "middle": (14, 24, 12), "raise": (24, 36, 14),
    "thicken": (18, 48, 32), "cut": (14, 36, 24), "join": (12, 24, 14), "expand": (26, 48, 24),
    "bevel": (26, 72, 48), "part": (48, 72, 26),
}


def fraction(pair):
    return Fraction(pair[0], pair[1])


def plain_weights(pattern):
    return (
        sum(Fraction(1, 2 * p) for p in pattern[3]),
        Fraction(len(pattern[3]), 4),
        sum(Fraction(1, 2 * q) for q in pattern[4]),
    )


class Applied(unittest.TestCase):
    def test_named_recipes_keep_the_name(self):
        for pattern in PATTERNS:
            for word in WORDS:
                recipe = named_recipe(word)
                found = applied(recipe, pattern)
                self.assertIsNone(breach(found))
                self.assertEqual(name_of(found), name_of(pattern), (word, pattern))
                self.assertEqual(found, plain_recipes.plain_applied(recipe, pattern))

    def test_all_small_recipes_keep_the_name(self):
        patterns = (samples.CUBE, samples.SWAP_0, samples.TORUS, KLEIN,
                    samples.small_patterns(3)[-1])
        for recipe in plain_recipes.valid_recipes(3) + plain_recipes.valid_recipes(4)[100::31]:
            for pattern in patterns:
                found = applied(recipe, pattern)
                self.assertIsNone(breach(found), (recipe, pattern))
                self.assertEqual(name_of(found), name_of(pattern), (recipe, pattern))
                self.assertEqual(found, plain_recipes.plain_applied(recipe, pattern))

    def test_orders_are_rounds_where_nothing_is_turned(self):
        for recipe in plain_recipes.valid_recipes(3) + plain_recipes.valid_recipes(4)[100::31]:
            for pattern in (TETRAHEDRON_24, samples.TORUS, KLEIN):
                s0, s1, s2, p, q = applied(recipe, pattern)
                flags = range(len(p))
                self.assertEqual(p, tuple(samples.plain_round(s0, s1, f) for f in flags), recipe)
                self.assertEqual(q, tuple(samples.plain_round(s1, s2, f) for f in flags), recipe)

    def test_each_kind_of_strip(self):
        # One cell, or two, whose ends cross different sides: sides 1 and 2, and sides 0 and 1.
        self.assertEqual(applied(named_recipe("dual"), samples.CUBE)[3:], ((3,), (4,)))
        self.assertEqual(applied(named_recipe("middle"), samples.CUBE)[3:], ((3, 4), (4, 4)))
        self.assertEqual(applied(named_recipe("raise"), samples.CUBE)[3:], ((3,) * 3, (6, 6, 4)))
        # Three cells whose ends cross sides 0 and 2, and three whose ends cross side 1.
        self.assertEqual(applied(named_recipe("thicken"), samples.CUBE)[3:],
                         ((6, 6, 6, 4), (3, 3, 3, 3)))
        # Six cells in a ring: of steps 0 and 1 in "part", of steps 1 and 2 in "bevel".
        for word, i, row in (("part", 0, 3), ("bevel", 1, 4)):
            recipe = named_recipe(word)
            cells, ends = plain_recipes.strip(recipe, 0, i, i + 1)
            self.assertEqual((len(cells), ends), (6, []))
            for pattern in (samples.CUBE, samples.TORUS, samples.MIRRORED_SQUARE):
                self.assertEqual(set(applied(recipe, pattern)[row]), {3})

    def test_flags_are_cells_of_flags(self):
        found = applied(named_recipe("middle"), samples.SWAP_0)
        self.assertEqual(found[:3], ((0, 1, 2, 3), (0, 3, 2, 1), (1, 0, 3, 2)))
        self.assertEqual(found[3:], ((3, 4, 3, 4), (4, 4, 4, 4)))
        self.assertEqual(applied(named_recipe("same"), CUBE_48), CUBE_48)

    def test_twice_dual(self):
        dual = named_recipe("dual")
        for pattern in PATTERNS:
            s0, s1, s2, p, q = pattern
            self.assertEqual(applied(dual, pattern), (s2, s1, s0, q, p))
            self.assertEqual(applied(dual, applied(dual, pattern)), pattern)


class Limits(unittest.TestCase):
    def refused(self, recipe, pattern, limit):
        for _ in range(2):
            with self.assertRaises(TooMany) as caught:
                applied(recipe, pattern)
            self.assertEqual(caught.exception.limit, limit)

    def test_240_flags(self):
        for word, many in (("same", 120), ("middle", 60), ("raise", 40), ("expand", 30),
                           ("part", 20)):
            recipe = named_recipe(word)
            found = applied(recipe, samples.ring(many))
            self.assertEqual(len(found[0]), 240)
            self.assertIsNone(breach(found))
            if many < 120:
                self.refused(recipe, samples.ring(many + 1), 240)

    def test_just_above_240_flags(self):
        self.refused(named_recipe("raise"), samples.path(81), 240)
        self.assertEqual(len(applied(named_recipe("raise"), samples.path(80))[0]), 240)

    def test_order_9999(self):
        tile = reordered(samples.CUBE, "tile", 0, 9999)
        self.assertEqual(applied(named_recipe("same"), tile)[3], (9999,))
        self.assertEqual(applied(named_recipe("dual"), tile)[4], (9999,))
        self.assertEqual(max(applied(named_recipe("middle"), tile)[3]), 9999)
        self.assertEqual(applied(named_recipe("raise"), tile)[4], (6, 6, 9999))
        corner = reordered(samples.CUBE, "corner", 0, 4999)
        self.assertEqual(applied(named_recipe("raise"), corner)[4], (9998, 9998, 4))

    def test_greater_orders(self):
        for order in (5000, 9999):
            corner = reordered(samples.CUBE, "corner", 0, order)
            self.refused(named_recipe("raise"), corner, 9999)
            self.refused(named_recipe("part"), corner, 9999)
            tile = reordered(samples.CUBE, "tile", 0, order)
            self.refused(named_recipe("cut"), tile, 9999)
            self.refused(named_recipe("bevel"), tile, 9999)
        # Only the order of one flag of several would be too great.
        some = reordered(samples.MIRRORED_SQUARE, "corner", 3, 5000)
        self.refused(named_recipe("raise"), some, 9999)

    def test_flags_come_ahead_of_orders(self):
        great = reordered(samples.ring(41), "corner", 0, 9998)
        self.refused(named_recipe("raise"), great, 240)
        self.refused(named_recipe("raise"), reordered(samples.ring(40), "corner", 0, 9998), 9999)


class Counts(unittest.TestCase):
    def test_weights(self):
        for pattern in PATTERNS + [CUBE_48, samples.ring(120, 9960)]:
            found = weights(pattern)
            self.assertEqual(tuple(fraction(pair) for pair in found), plain_weights(pattern))
            for pair, part in zip(found, plain_weights(pattern)):
                self.assertEqual(pair, (part.numerator, part.denominator))
            self.assertEqual(times((2, 1), plus(minus(found[2], found[1]), found[0])),
                             flag_sum(pattern))

    def test_the_whole_cube(self):
        self.assertEqual(weights(CUBE_48), ((6, 1), (12, 1), (8, 1)))
        self.assertEqual(weights(samples.CUBE), ((1, 8), (1, 4), (1, 6)))
        for word, parts in CUBE_PARTS.items():
            recipe = named_recipe(word)
            self.assertEqual(cell_counts(recipe, CUBE_48), tuple((k, 1) for k in parts), word)
            found = cell_counts(recipe, samples.CUBE)
            self.assertEqual(tuple(48 * fraction(pair) for pair in found), parts, word)

    def test_cell_counts_are_the_weights_of_what_is_applied(self):
        for pattern in PATTERNS[::2]:
            for word in WORDS:
                recipe = named_recipe(word)
                self.assertEqual(cell_counts(recipe, pattern), weights(applied(recipe, pattern)))

    def test_far_beyond_the_limits(self):
        pattern = samples.ring(120, 9960)
        for k in range(20):
            pattern = reordered(pattern, "corner", 6 * k + 1, 9998 - 2 * k)
        for word in ("part", "thicken", "cut"):
            recipe = named_recipe(word)
            found = cell_counts(recipe, pattern)
            expected = plain_weights(plain_recipes.plain_applied(recipe, pattern))
            self.assertEqual(found, tuple((f.numerator, f.denominator) for f in expected))
            total = plus(minus(found[2], found[1]), found[0])
            self.assertEqual(times((2, 1), total), flag_sum(pattern))
