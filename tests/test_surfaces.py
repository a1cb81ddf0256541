import unittest
from fractions import Fraction

import plain_surfaces
import samples
from flagfloors.glue import glued
from flagfloors.numberings import renumbered
from flagfloors.orders import reordered
from flagfloors.surfaces import colours, flag_sum, is_oriented, surface_count

PATTERNS = plain_surfaces.many_patterns()
KLEIN = samples.plain_glued(((1, 2, -1, 2),))


def plain_flag_sum(pattern):
    return sum(Fraction(1, p) + Fraction(1, q) - Fraction(1, 2) for p, q in zip(*pattern[3:]))


class FlagSum(unittest.TestCase):
    def test_against_fractions(self):
        for pattern in PATTERNS:
            found = flag_sum(pattern)
            expected = plain_flag_sum(pattern)
            self.assertEqual(found, (expected.numerator, expected.denominator))
            self.assertIs(type(found), tuple)
            self.assertEqual({type(part) for part in found}, {int})

    def test_ball_plane_saddle(self):
        self.assertEqual(flag_sum(samples.CUBE), (1, 12))
        self.assertEqual(flag_sum(samples.TORUS), (0, 1))
        self.assertEqual(flag_sum(((0,), (0,), (0,), (7,), (3,))), (-1, 42))
        self.assertEqual(flag_sum(samples.plain_glued(samples.CUBE_TILES)), (4, 1))

    def test_many_unlike_orders(self):
        pattern = samples.ring(120)
        for k, order in enumerate((9998, 9994, 9974, 9958, 9946, 4, 2, 6)):
            pattern = reordered(pattern, "corner", 4 * k + 1, order)
        expected = plain_flag_sum(pattern)
        self.assertEqual(flag_sum(pattern), (expected.numerator, expected.denominator))


class SurfaceCount(unittest.TestCase):
    def test_against_corners_sides_and_triangles(self):
        for pattern in PATTERNS:
            self.assertEqual(surface_count(pattern), plain_surfaces.plain_count(pattern[:3]))

    def test_known_surfaces(self):
        self.assertEqual(surface_count(samples.CUBE), 1)
        for tiles, count in (
            (((1, -1),), 2), (((1, 1),), 1), (((1, 2, -1, -2),), 0), (((1, 2, -1, 2),), 0),
            (((1, 2, -1, -2, 3, 4, -3, -4),), -2), (((1, 2, 3, 4),), 1), (((1, 2, -1, 3),), 0),
            (((1, 2, 1, 3),), 0), (samples.CUBE_TILES, 2), (samples.TETRAHEDRON_TILES, 2),
        ):
            self.assertEqual(surface_count(glued(tiles)), count, tiles)

    def test_orders_do_not_count(self):
        self.assertEqual(surface_count(reordered(samples.TORUS, "tile", 0, 400)), 0)


class Colours(unittest.TestCase):
    def test_against_parts(self):
        for pattern in PATTERNS:
            found = colours(pattern)
            self.assertEqual(found, plain_surfaces.plain_colours(pattern[:3]))
            if found is not None:
                self.assertEqual(found[0], 0)
                self.assertIs(type(found), tuple)
                self.assertEqual({type(part) for part in found}, {int})

    def test_mirrors_and_closed_ones(self):
        self.assertEqual(colours(samples.CUBE), (0,))
        self.assertEqual(colours(samples.MIRRORED_SQUARE), (0, 1) * 4)
        self.assertEqual(colours(samples.TORUS), (0, 1) * 4)
        self.assertIsNone(colours(KLEIN))
        self.assertIsNone(colours(glued(((1, 1),))))
        # A band whose ends are glued the wrong way round has mirrors, too.
        self.assertIsNone(colours(glued(((1, 2, 1, 3),))))

    def test_colour_0_for_flag_0(self):
        for pattern in PATTERNS:
            for step in (5, 7):
                size = len(pattern[0])
                if size % step:
                    listing = plain_surfaces.mixed(size, step)
                    other = renumbered(pattern, listing)
                    self.assertEqual(colours(other), plain_surfaces.plain_colours(other[:3]))


class Oriented(unittest.TestCase):
    def test_against_colours_and_mirrors(self):
        for pattern in PATTERNS:
            mirrors = any(s[f] == f for s in pattern[:3] for f in range(len(s)))
            expected = plain_surfaces.plain_colours(pattern[:3]) is not None and not mirrors
            self.assertIs(is_oriented(pattern), expected)

    def test_each_kind(self):
        self.assertIs(is_oriented(samples.TORUS), True)
        self.assertIs(is_oriented(samples.MIRRORED_SQUARE), False)
        self.assertIs(is_oriented(KLEIN), False)
        self.assertIs(is_oriented(samples.CUBE), False)
        self.assertIs(is_oriented(glued(((1, 2, 1, 3),))), False)
