import unittest
from itertools import product

import samples
from flagfloors.classes import classes
from flagfloors.errors import NotGlued
from flagfloors.glue import glued
from flagfloors.patterns import breach

FINE = (
    ((1,),),
    ((-7,),),
    ((1, -1),),
    ((1, 1),),
    ((-1, -1),),
    ((1, 2),),
    ((1, 2, -1, -2),),
    ((1, 2, -1, 2),),
    ((1, 2, 3, 4),),
    ((1, 1, 2, 2, 3),),
    ((1, 2, 3), (1, -2, 4)),
    ((1, 2, 3), (3, 5, -5)),
    ((1,), (1,)),
    ((1,), (-1,)),
    ((10 ** 30, -5, 10 ** 30), (5, 6)),
    ((1, 2), (3, -2, 4), (-4, 5, 3, 6, -1)),
    samples.CUBE_TILES,
    samples.TETRAHEDRON_TILES,
)


class Glued(unittest.TestCase):
    def test_against_the_ends_of_the_edges(self):
        for tiles in FINE:
            found = glued(tiles)
            self.assertEqual(found, samples.plain_glued(tiles), tiles)
            self.assertIsNone(breach(found))

    def test_all_single_tiles_with_few_labels(self):
        for many in range(1, 6):
            for tile in product((-2, -1, 1, 2, 3), repeat=many):
                if all([abs(a) for a in tile].count(abs(b)) < 3 for b in tile):
                    self.assertEqual(glued((tile,)), samples.plain_glued((tile,)), tile)

    def test_torus(self):
        self.assertEqual(glued(((1, 2, -1, -2),)), samples.TORUS)

    def test_both_ways_of_gluing(self):
        self.assertEqual(glued(((1, -1),)),
                         ((1, 0, 3, 2), (3, 2, 1, 0), (3, 2, 1, 0), (2,) * 4, (1, 1, 1, 1)))
        self.assertEqual(glued(((1, 1),)),
                         ((1, 0, 3, 2), (3, 2, 1, 0), (2, 3, 0, 1), (2,) * 4, (2, 2, 2, 2)))
        self.assertEqual(glued(((-1, -1),)), glued(((1, 1),)))

    def test_one_side_at_a_mirror(self):
        self.assertEqual(glued(((5,),)), ((1, 0), (1, 0), (0, 1), (1, 1), (2, 2)))

    def test_cube_and_tetrahedron(self):
        cube = glued(samples.CUBE_TILES)
        self.assertEqual([len(classes(cube, i, j)) for i, j in ((0, 1), (0, 2), (1, 2))], [6, 12, 8])
        self.assertEqual(cube[3:], ((4,) * 48, (3,) * 48))
        tetrahedron = glued(samples.TETRAHEDRON_TILES)
        self.assertEqual(tetrahedron[3:], ((3,) * 24, (3,) * 24))
        self.assertEqual(len(classes(tetrahedron, 1, 2)), 4)

    def test_120_sides(self):
        one = (tuple(range(1, 121)),)
        self.assertEqual(glued(one), samples.ring(120))
        row = tuple((k, -k - 1) for k in range(1, 61))
        found = glued(row)
        self.assertEqual(len(found[0]), 240)
        self.assertIsNone(breach(found))
        self.assertEqual(found, samples.plain_glued(row))


class Refused(unittest.TestCase):
    def refused(self, tiles, tile, side):
        for _ in range(2):
            with self.assertRaises(NotGlued) as caught:
                glued(tiles)
            self.assertEqual((caught.exception.tile, caught.exception.side), (tile, side), tiles)

    def test_no_tuple_of_tuples_of_integers(self):
        for tiles in (None, 0, True, "", "12", b"1", [], [(1, 2)], {}, {(1,): 1}, set(), object(),
                      (1, 2), ("1",), ([1, 2],), ((1, 2), [1, 2]), ((1, 2), None), (((1,),),),
                      ((1, True),), ((False,),), ((1, "2"),), ((1, 2.0),), ((1, None),),
                      ((1, 2), (3, [4]))):
            self.refused(tiles, -1, -1)

    def test_no_tile(self):
        self.refused((), -1, -1)

    def test_121_sides(self):
        self.refused((tuple(range(1, 122)),), -1, -1)
        self.refused(tuple((k, -k - 1) for k in range(1, 61)) + ((-1,),), -1, -1)

    def test_a_tile_without_sides(self):
        self.refused(((),), 0, -1)
        self.refused(((1, 2), (), (1, 2)), 1, -1)
        self.refused(((1,), (1,), (), ()), 2, -1)

    def test_label_0(self):
        self.refused(((0,),), 0, 0)
        self.refused(((1, 2), (1, 3, 0, 4)), 1, 2)

    def test_label_for_the_third_time(self):
        self.refused(((1, 1, 1),), 0, 2)
        self.refused(((1, -1, -1),), 0, 2)
        self.refused(((-1, 2), (3, 1), (4, -1), (5, -1)), 2, 1)

    def test_tiles_that_are_not_connected(self):
        self.refused(((1,), (2,)), 1, -1)
        self.refused(((1, 2), (2, 3), (4, 5)), 2, -1)
        self.refused(((1, 2), (4, 5), (2, 4), (6,), (7, 7)), 3, -1)

    def test_two_faults_at_once(self):
        # The form goes ahead of all else, even behind another fault.
        self.refused(((), (True,)), -1, -1)
        self.refused(((0,), "x"), -1, -1)
        self.refused(((1, 1, 1), (1.5,)), -1, -1)
        self.refused(((),) + (tuple(range(1, 122)),), -1, -1)
        self.refused(((0,) * 121,), -1, -1)
        # A tile without sides goes ahead of labels and connection.
        self.refused(((0,), ()), 1, -1)
        self.refused(((1, 1, 1), ()), 1, -1)
        self.refused(((1,), (2,), ()), 2, -1)
        # The labels go by place, whatever is wrong with them.
        self.refused(((1, 1), (1, 0)), 1, 0)
        self.refused(((1, 1), (0, 1)), 1, 0)
        self.refused(((2, 0), (1, 1, 1)), 0, 1)
        # And labels go ahead of connection.
        self.refused(((1,), (2,), (3, 3, 3)), 2, 2)
        self.refused(((1,), (2,), (0,)), 2, 0)
