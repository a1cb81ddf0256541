import unittest

import plain_surfaces
import samples
from flagfloors.classes import round_of
from flagfloors.errors import TooMany
from flagfloors.glue import glued
from flagfloors.namefloors import pattern_of
from flagfloors.names import check_name, name_of, normal_name
from flagfloors.patterns import breach
from flagfloors.sides import PLANE_NAMES


def plain_tile(name):
    """The labels of the tile, and the orders of corners: pairs of a flag and a factor."""
    handles, turns, borders, crosscaps = name
    letters = []
    for k in range(handles):
        letters += [("h", k), ("g", k), ("-h", k), ("-g", k)]
    for k in range(crosscaps):
        letters += [("c", k), ("c", k)]
    wanted = []
    for k, turn in enumerate(turns):
        letters += [("t", k), ("-t", k)]
        wanted.append((2 * len(letters) - 3, turn))
    for k, row in enumerate(borders):
        letters.append(("b", k))
        end_of_a = 2 * len(letters) - 1
        for j in range(max(1, len(row))):
            letters.append(("m", k, j))
            if j < len(row) - 1:
                wanted.append((2 * len(letters) - 1, row[j]))
        if row:
            wanted.append((end_of_a, row[-1]))
        letters.append(("-b", k))
    if not letters:
        letters = [("a",), ("-a",)]
    numbers = {}
    for letter in letters:
        numbers.setdefault((letter[0].removeprefix("-"),) + letter[1:], len(numbers) + 1)
    labels = [
        -numbers[(a[0][1:],) + a[1:]] if a[0].startswith("-") else numbers[a] for a in letters
    ]
    return (tuple(labels),), wanted


def plain_pattern(name):
    tiles, wanted = plain_tile(name)
    s0, s1, s2, p, q = samples.plain_glued(tiles)
    q = list(q)
    for flag, turn in wanted:
        for member in samples.plain_class(s1, s2, flag):
            q[member] = turn * samples.plain_round(s1, s2, flag)
    return (s0, s1, s2, p, tuple(q))


NAMES = list(PLANE_NAMES) + [
    (0, (), (), 0), (0, (), (), 1), (0, (), (), 5), (4, (), (), 0), (0, (5,), (), 0),
    (0, (2, 5), (), 0), (0, (), ((5,),), 0), (0, (), ((2, 5),), 0), (0, (), ((),), 0),
    (0, (), ((2, 3, 4),), 0), (0, (), ((2, 3, 4), (2, 3, 5)), 0),
    (0, (), ((2, 3, 4), (2, 5, 3)), 0), (1, (2, 3), ((), (2, 3, 4), (2, 5, 3)), 0),
    (0, (2, 2, 7), ((), (), (2, 3, 4), (2, 3, 5)), 3), (0, (2, 3, 9999), (), 2),
    (0, (), ((2, 3, 2, 4, 2, 5),), 0), (2, (), ((2, 2, 3), (2, 2, 3), (3, 4)), 0),
]


class PatternOf(unittest.TestCase):
    def test_name_there_and_back(self):
        for name in NAMES:
            self.assertIs(check_name(name), name)
            pattern = pattern_of(name)
            self.assertIsNone(breach(pattern))
            self.assertEqual(name_of(pattern), name)
            self.assertEqual(plain_surfaces.plain_name(pattern), name)

    def test_many_names(self):
        rows = [(), (2,), (3, 2), (4, 3, 2), (2, 5, 3)]
        for handles, crosscaps in ((0, 0), (2, 0), (0, 1), (0, 2)):
            for turns in ((), (3,), (2, 2, 5)):
                for a in rows:
                    for b in rows:
                        name = normal_name(handles, turns, (a, b), crosscaps)
                        self.assertEqual(name_of(pattern_of(name)), name)

    def test_the_tile_as_told(self):
        for name in NAMES:
            self.assertEqual(pattern_of(name), plain_pattern(name), name)

    def test_no_side_at_all(self):
        self.assertEqual(pattern_of((0, (), (), 0)), glued(((1, -1),)))

    def test_orders_where_they_belong(self):
        self.assertEqual(pattern_of((0, (7,), (), 0)),
                         ((1, 0, 3, 2), (3, 2, 1, 0), (3, 2, 1, 0), (2,) * 4, (1, 7, 7, 1)))
        # Sides a, m1, m2, -a: m1 and m2 meet with round 2, a and -a with m1 and m2 with round 4.
        pattern = pattern_of((0, (), ((3, 5),), 0))
        self.assertEqual(pattern[4], (1, 20, 20, 6, 6, 20, 20, 1))
        self.assertEqual([round_of(pattern, f, 1, 2) for f in (0, 1, 3)], [1, 4, 2])
        # One mirror, with and without an entry.
        self.assertEqual(pattern_of((0, (), ((3,),), 0))[4], (1, 12, 12, 12, 12, 1))
        self.assertEqual(pattern_of((0, (), ((),), 0))[4], (1, 4, 4, 4, 4, 1))


class Limits(unittest.TestCase):
    def refused(self, name, limit):
        self.assertIs(check_name(name), name)
        for _ in range(2):
            with self.assertRaises(TooMany) as caught:
                pattern_of(name)
            self.assertEqual(caught.exception.limit, limit, name)

    def test_120_sides(self):
        for name in (
            (30, (), (), 0), (0, (), (), 60), (0, (2,) * 60, (), 0), (0, (), ((),) * 40, 0),
            (0, (), ((2,) * 118,), 0), (0, (2,) * 3, ((), (2,), (2, 2)), 52),
        ):
            pattern = pattern_of(name)
            self.assertEqual(len(pattern[0]), 240, name)
            self.assertEqual(name_of(pattern), name)

    def test_more_sides(self):
        for name in (
            (31, (), (), 0), (30, (2,), (), 0), (0, (), (), 61), (0, (), (), 180), (60, (), (), 0),
            (0, (2,) * 61, (), 0), (0, (), ((),) * 41, 0), (0, (), ((2,) * 119,), 0),
            (0, (2,) * 3, ((), (2,), (2, 2)), 53), (30, (), ((),), 0), (0, (2,) * 5000, (), 0),
        ):
            self.refused(name, 120)

    def test_orders_up_to_9999(self):
        for name in ((0, (9999,), (), 0), (0, (2, 9999), ((2,),), 0), (0, (), ((2499,),), 0),
                     (0, (), ((2, 2499),), 0), (0, (), ((2, 3, 4999, 3),), 0)):
            self.assertIs(check_name(name), name)
            self.assertEqual(name_of(pattern_of(name)), name)

    def test_greater_orders(self):
        for name in ((0, (), ((2500,),), 0), (0, (), ((9999,),), 0), (0, (), ((2, 2500),), 0),
                     (0, (), ((2, 3, 5000, 3),), 0), (0, (2,), ((), (2, 3, 5000, 3)), 1)):
            self.refused(name, 9999)

    def test_sides_come_ahead_of_orders(self):
        self.refused((30, (), ((2, 9999, 9999),), 0), 120)
        self.refused((0, (), ((2,) * 118 + (9999,),), 0), 120)
        self.refused((0, (), ((2,) * 117 + (9999,),), 0), 9999)
