import unittest

import plain_surfaces
import plane_samples
from flagfloors.layings import laid
from flagfloors.motions import motions
from flagfloors.names import name_of
from flagfloors.numberings import renumbered
from flagfloors.sides import PLANE_NAMES
from flagfloors.sorts import kept_form, sort_of


class SortOf(unittest.TestCase):
    def test_the_name_of_the_pattern(self):
        names = set()
        for pattern, made in plane_samples.layings():
            name = name_of(pattern)
            self.assertEqual(sort_of(motions(made)), name)
            names.add(name)
        self.assertEqual(names, set(PLANE_NAMES))

    def test_numbered_anew(self):
        for pattern in plane_samples.plane_patterns()[::2]:
            size = len(pattern[0])
            for listing in (tuple(range(size))[::-1], tuple(range(1, size)) + (0,)):
                other = renumbered(pattern, listing)
                self.assertEqual(sort_of(motions(laid(other))), plain_surfaces.plain_name(pattern))

    def test_many_other_steps(self):
        matrices = (((1, 1), (0, 1)), ((0, -1), (1, 3)), ((2, 3), (1, 2)), ((-5, 2), (2, -1)),
                    ((1, 0), (1, -1)))
        for pattern, made in plane_samples.layings()[::4]:
            for seed, matrix in enumerate(matrices):
                other = plane_samples.other_laying(made, matrix, seed + 17)
                self.assertEqual(sort_of(motions(other)), name_of(pattern))


class KeptForm(unittest.TestCase):
    def test_the_sum(self):
        for _, made in plane_samples.layings():
            found = motions(made)
            total = {(i, j): 0 for i in (0, 1) for j in (0, 1)}
            for matrix, _ in found:
                for i, j in total:
                    total[(i, j)] += sum(matrix[k][i] * matrix[k][j] for k in (0, 1))
            self.assertEqual(total[(0, 1)], total[(1, 0)])
            form = kept_form(found)
            self.assertEqual(form, (total[(0, 0)], total[(0, 1)], total[(1, 1)]))
            self.assertEqual([type(x) for x in form], [int, int, int])

    def test_above_zero(self):
        for _, made in plane_samples.layings():
            u, v, w = kept_form(motions(made))
            self.assertGreater(u, 0)
            self.assertGreater(u * w - v * v, 0)
            for x in range(-4, 5):
                for y in range(-4, 5):
                    if (x, y) != (0, 0):
                        self.assertGreater(u * x * x + 2 * v * x * y + w * y * y, 0)

    def test_every_motion_keeps_it(self):
        unlike = set()
        for _, made in plane_samples.layings():
            found = motions(made)
            u, v, w = kept_form(found)
            for (a, b), (c, d) in [matrix for matrix, _ in found]:
                for x, y in ((1, 0), (0, 1), (1, 1), (3, -2), (-5, 7)):
                    p, q = a * x + b * y, c * x + d * y
                    self.assertEqual(u * p * p + 2 * v * p * q + w * q * q,
                                     u * x * x + 2 * v * x * y + w * y * y)
            unlike.add((u == w, v == 0))
        self.assertGreaterEqual(len(unlike), 3)

    def test_squares_and_one_motion(self):
        u, v, w = kept_form(motions(laid(plane_samples.SQUARES)))
        self.assertEqual(u * w - v * v, 64)
        self.assertEqual(kept_form(((((1, 0), (0, 1)), ((0, 1), (0, 1))),)), (1, 0, 1))
        self.assertEqual(kept_form(((((2, 3), (1, 2)), ((0, 1), (0, 1))),)), (5, 8, 13))
