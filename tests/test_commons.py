import unittest
from math import lcm

import samples
from flagfloors.commons import common_cover
from flagfloors.errors import TooMany
from flagfloors.foldings import coarsest, folded
from flagfloors.glue import glued
from flagfloors.leads import are_alike, leads
from flagfloors.numberings import renumbered, walk
from flagfloors.orders import reordered
from flagfloors.patterns import breach

GREATER = (
    samples.ring(2, 12), samples.ring(3, 12), samples.ring(4, 12), samples.ring(6, 12),
    reordered(samples.ring(4, 12), "corner", 3, 4),
    renumbered(reordered(samples.ring(4, 12), "corner", 3, 4), (3, 4, 5, 6, 7, 0, 1, 2)),
    samples.TORUS, glued(((1, 2, -1, 2),)), samples.path(4), samples.path(3),
)
PATTERNS = samples.small_patterns(3) + samples.small_patterns(4)[70::31] + GREATER


def plain_common_cover(a, b):
    """The common cover, straight from [14]."""
    c, d = coarsest(a), coarsest(b)
    image, other = folded(a, c), folded(b, d)
    ways = leads(image, other) if len(image[0]) == len(other[0]) else ()
    if not ways:
        return None
    k = ways[0]
    first = (0, min(y for y in range(len(b[0])) if k[c[0]] == d[y]))
    pairs = [first]
    for x, y in pairs:
        for i in range(3):
            if (a[i][x], b[i][y]) not in pairs:
                pairs.append((a[i][x], b[i][y]))
    changes = tuple(tuple(pairs.index((a[i][x], b[i][y])) for x, y in pairs) for i in range(3))
    orders = tuple(tuple(a[i][x] for x, _ in pairs) for i in (3, 4))
    return (changes + orders, tuple(x for x, _ in pairs), tuple(y for _, y in pairs))


class CommonCover(unittest.TestCase):
    def test_as_the_point_makes_it(self):
        for a in PATTERNS:
            for b in PATTERNS:
                found = common_cover(a, b)
                self.assertEqual(found, plain_common_cover(a, b), (a, b))
                alike = are_alike(folded(a, coarsest(a)), folded(b, coarsest(b)))
                self.assertIs(found is not None, alike)

    def test_a_lead_to_each(self):
        for a in GREATER:
            for b in GREATER:
                found = common_cover(a, b)
                if found is not None:
                    cover, to_a, to_b = found
                    self.assertIsNone(breach(cover))
                    self.assertIn(to_a, leads(cover, a))
                    self.assertIn(to_b, leads(cover, b))
                    self.assertEqual(walk(cover, 0), tuple(range(len(cover[0]))))
                    self.assertEqual(to_a[0], 0)
                    self.assertEqual(len(set(zip(to_a, to_b))), len(to_a))

    def test_the_first_pair_has_the_least_flag_of_its_kind(self):
        # Flag 0 of the one stands at the corner of order 4, flag 0 of the other does not.
        b = reordered(samples.ring(4, 12), "corner", 3, 4)
        a = renumbered(b, (3, 4, 5, 6, 7, 0, 1, 2))
        self.assertEqual(a[4][0], 4)
        self.assertEqual(b[4][0], 2)
        cover, to_a, to_b = common_cover(a, b)
        self.assertEqual((to_a[0], to_b[0]), (0, 3))
        self.assertEqual(len(cover[0]), 8)

    def test_one_flag_below(self):
        cube = glued(samples.CUBE_TILES)
        self.assertEqual(common_cover(samples.CUBE, cube)[1:], ((0,) * 48, walk(cube, 0)))
        self.assertEqual(common_cover(cube, cube)[0], renumbered(cube, walk(cube, 0)))

    def test_no_common_image(self):
        self.assertIsNone(common_cover(samples.ring(4, 12), samples.ring(4, 8)))
        self.assertIsNone(common_cover(samples.TORUS, samples.MIRRORED_SQUARE[:4] + ((2,) * 8,)))
        self.assertIsNone(common_cover(samples.CUBE, ((0,), (0,), (0,), (4,), (4,))))
        a = reordered(samples.ring(4, 12), "corner", 3, 4)
        self.assertIsNone(common_cover(a, samples.ring(4, 12)))
        # Too many pairs are of no concern where there is no common image.
        self.assertIsNone(common_cover(samples.ring(120, 7920), samples.ring(11, 11)))

    def test_240_pairs(self):
        for m, n in ((8, 15), (120, 120), (5, 24), (1, 120), (40, 3)):
            self.assertEqual(lcm(m, n), 120)
            cover, to_a, to_b = common_cover(samples.ring(m, 120), samples.ring(n, 120))
            self.assertEqual(len(cover[0]), 240)
            self.assertIsNone(breach(cover))
            self.assertEqual((max(to_a), max(to_b)), (2 * m - 1, 2 * n - 1))

    def test_more_than_240_pairs(self):
        for m, n in ((11, 111), (11, 12), (2, 119), (120, 9), (101, 99)):
            order = lcm(m, n)
            for _ in range(2):
                with self.assertRaises(TooMany) as caught:
                    common_cover(samples.ring(m, order), samples.ring(n, order))
                self.assertEqual(caught.exception.limit, 240)
