import unittest

import plain_covers
import plain_surfaces
import plane_samples
import samples
import test_freed
from flagfloors.applying import applied
from flagfloors.covers import check_cover, normal_cover
from flagfloors.decks import is_regular
from flagfloors.errors import NotPlane, TooMany
from flagfloors.namefloors import pattern_of
from flagfloors.names import name_of
from flagfloors.orders import reordered
from flagfloors.recipewords import recipe_of_words
from flagfloors.ringcovers import ring_cover


def dangling(first, many):
    """The pattern of one tile with sides that begin it and many edges hanging into it."""
    labels = first + tuple(k * s for k in range(3, many + 3) for s in (1, -1))
    return samples.plain_glued((labels,))


def not_planes():
    """Patterns of the ball, of the saddle and with bad names, small ones and some of 240 flags."""
    found = [samples.CUBE, ((0,), (0,), (0,), (9999,), (2,)), ((0,), (0,), (0,), (4,), (5,))]
    found += [((0,), (0,), (0,), (9999,), (9999,)), ((1, 0), (1, 0), (1, 0), (3, 3), (7, 7))]
    found += [test_freed.TURNED_EDGE, samples.plain_glued(samples.CUBE_TILES), samples.ring(120)]
    found += [samples.plain_glued(((1, 2, -1, -2, 3, 4, -3, -4),)), samples.path(240)]
    whole = samples.plain_glued((tuple(k * s for k in range(1, 61) for s in (1, -1)),))
    found += [whole, reordered(whole, "tile", 0, 240), reordered(whole, "tile", 0, 120 * 83)]
    found.append(reordered(dangling((1, 2, -1, -2), 58), "tile", 0, 240))
    return found


class RingCover(unittest.TestCase):
    def test_all_that_the_point_says(self):
        names = set()
        for pattern in plane_samples.plane_patterns():
            found = ring_cover(pattern)
            above, lead = found
            self.assertIs(check_cover(pattern, found), found)
            self.assertTrue(test_freed.is_plain_free(above))
            self.assertIsNotNone(plain_surfaces.plain_colours(above[:3]))
            self.assertEqual(name_of(above), (1, (), (), 0))
            name = name_of(pattern)
            self.assertEqual(len(lead), plane_samples.POINTS[name] * len(pattern[0]))
            self.assertTrue(is_regular(found))
            names.add(name)
        self.assertEqual(names, set(plane_samples.POINTS))

    def test_name_and_normal_form_by_other_ways(self):
        for pattern in plane_samples.plane_patterns():
            found = ring_cover(pattern)
            self.assertEqual(normal_cover(found), found)
            if len(found[1]) <= 60:
                self.assertEqual(plain_covers.plain_normal(found), found)
                self.assertEqual(plain_surfaces.plain_name(found[0]), (1, (), (), 0))

    def test_squares(self):
        lead = (0,) * 8
        expected = plain_covers.plain_normal((samples.TORUS, lead))
        self.assertEqual(ring_cover(plane_samples.SQUARES), expected)
        self.assertEqual(ring_cover(samples.TORUS),
                         plain_covers.plain_normal((samples.TORUS, tuple(range(8)))))

    def test_just_240_flags(self):
        for pattern in (dangling((1, 2, -1, -2), 58), dangling((1, 2, -1, 2), 28),
                        dangling((1, 1, 2, 2), 28),
                        applied(recipe_of_words("middle"), pattern_of((0, (), ((2, 3, 6),), 0))),
                        applied(recipe_of_words("raise"), pattern_of((0, (), ((2, 4, 4),), 0)))):
            found = ring_cover(pattern)
            self.assertEqual(len(found[1]), 240)
            self.assertIs(check_cover(pattern, found), found)
            self.assertEqual(name_of(found[0]), (1, (), (), 0))
            self.assertTrue(test_freed.is_plain_free(found[0]))

    def test_above_240_flags(self):
        for pattern in (dangling((1, 2, -1, 2), 29), dangling((1, 1, 2, 2), 58),
                        applied(recipe_of_words("raise"), pattern_of((0, (), ((2, 3, 6),), 0))),
                        applied(recipe_of_words("part expand"), plane_samples.TRIANGLES)):
            self.assertIn(name_of(pattern), plane_samples.POINTS)
            for _ in range(2):
                with self.assertRaises(TooMany) as caught:
                    ring_cover(pattern)
                self.assertEqual(caught.exception.limit, 240)

    def test_other_sides(self):
        for pattern in not_planes():
            self.assertNotIn(name_of(pattern), plane_samples.POINTS)
            for _ in range(2):
                with self.assertRaises(NotPlane):
                    ring_cover(pattern)
