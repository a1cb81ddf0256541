import unittest
from itertools import product

import samples
from flagfloors.glue import glued
from flagfloors.leads import are_alike, leads, selves
from flagfloors.numberings import least, renumbered
from flagfloors.orders import reordered

SMALL = samples.small_patterns(3) + samples.small_patterns(4)[70::31]


def plain_leads(a, b):
    """All leads, out of all rows of flags."""
    rows = product(range(len(b[0])), repeat=len(a[0]))
    return tuple(row for row in rows if samples.is_plain_lead(a, b, row))


class Leads(unittest.TestCase):
    def test_among_all_rows(self):
        for a in SMALL:
            for b in SMALL:
                found = leads(a, b)
                self.assertEqual(found, plain_leads(a, b), (a, b))
                self.assertEqual(found, tuple(sorted(found)))

    def test_alike(self):
        for a in SMALL:
            for b in SMALL:
                expected = len(a[0]) == len(b[0]) and plain_leads(a, b) != ()
                self.assertIs(are_alike(a, b), expected)
                self.assertEqual(least(a) == least(b), expected)

    def test_numbered_otherwise(self):
        for a in SMALL:
            b = renumbered(a, tuple(range(len(a[0])))[::-1])
            self.assertTrue(are_alike(a, b))
            self.assertTrue(are_alike(b, a))

    def test_selves(self):
        for a in SMALL:
            self.assertEqual(selves(a), plain_leads(a, a))
            self.assertEqual(selves(a)[0], tuple(range(len(a[0]))))

    def test_onto_a_smaller_one_but_not_alike(self):
        cube = glued(samples.CUBE_TILES)
        self.assertEqual(leads(cube, samples.CUBE), ((0,) * 48,))
        self.assertEqual(leads(samples.CUBE, cube), ())
        self.assertFalse(are_alike(cube, samples.CUBE))
        self.assertFalse(are_alike(samples.CUBE, cube))

    def test_the_symmetries_of_bodies(self):
        cube = glued(samples.CUBE_TILES)
        tetrahedron = glued(samples.TETRAHEDRON_TILES)
        self.assertEqual(len(selves(cube)), 48)
        self.assertEqual([row[0] for row in selves(cube)], list(range(48)))
        for row in selves(cube)[::5]:
            self.assertTrue(samples.is_plain_lead(cube, cube, row))
        self.assertEqual(len(selves(tetrahedron)), 24)
        # The orders of the tiles are equal, those of one corner are not.
        marked = reordered(tetrahedron, "corner", 0, 6)
        self.assertEqual(len(selves(marked)), 6)
        self.assertEqual(leads(marked, tetrahedron), ())

    def test_the_orders_must_be_the_same(self):
        self.assertEqual(leads(samples.ring(4), samples.ring(4, 8)), ())
        self.assertEqual(leads(samples.ring(4, 8), samples.ring(2, 8))[0], (0, 1, 2, 3) * 2)
        self.assertEqual(leads(samples.TORUS, samples.MIRRORED_SQUARE), ())

    def test_240_flags(self):
        a = samples.ring(120)
        b = renumbered(a, tuple((7 * k + 3) % 240 for k in range(240)))
        self.assertEqual(len(leads(a, b)), 240)
        self.assertTrue(are_alike(a, b))
        self.assertFalse(are_alike(a, samples.ring(60, 120)))
