import unittest

import samples
from flagfloors.classes import (
    class_of, classes, is_mirrored, order_of, round_of, turn_of, walked,
)

PAIRS = ((0, 1), (1, 0), (1, 2), (2, 1), (0, 2), (2, 0))
PATTERNS = samples.small_patterns(4) + (
    samples.TORUS, samples.MIRRORED_SQUARE, samples.ring(5, 10),
)


def plain_order(pattern, flag, i, j):
    return {1: pattern[3][flag], 3: pattern[4][flag], 2: 2}[i + j]


class Classes(unittest.TestCase):
    def test_class_of(self):
        for pattern in PATTERNS:
            for i, j in PAIRS:
                for flag in range(len(pattern[0])):
                    expected = samples.plain_class(pattern[i], pattern[j], flag)
                    self.assertEqual(class_of(pattern, flag, i, j), expected)

    def test_classes(self):
        for pattern in PATTERNS:
            for i, j in PAIRS:
                expected = {
                    samples.plain_class(pattern[i], pattern[j], flag)
                    for flag in range(len(pattern[0]))
                }
                self.assertEqual(classes(pattern, i, j), tuple(sorted(expected)))

    def test_round_order_and_turn(self):
        for pattern in PATTERNS:
            for i, j in PAIRS:
                for flag in range(len(pattern[0])):
                    many = samples.plain_round(pattern[i], pattern[j], flag)
                    order = plain_order(pattern, flag, i, j)
                    self.assertEqual(round_of(pattern, flag, i, j), many)
                    self.assertEqual(order_of(pattern, flag, i, j), order)
                    self.assertEqual(turn_of(pattern, flag, i, j) * many, order)

    def test_is_mirrored(self):
        for pattern in PATTERNS:
            for i, j in PAIRS:
                for flag in range(len(pattern[0])):
                    members = samples.plain_class(pattern[i], pattern[j], flag)
                    expected = any(pattern[k][f] == f for k in (i, j) for f in members)
                    self.assertIs(is_mirrored(pattern, flag, i, j), expected)

    def test_torus_and_mirrored_square(self):
        torus = samples.TORUS
        square = samples.MIRRORED_SQUARE
        self.assertEqual(classes(torus, 0, 1), (tuple(range(8)),))
        self.assertEqual(classes(torus, 1, 2), (tuple(range(8)),))
        self.assertEqual(classes(torus, 2, 0), ((0, 1, 4, 5), (2, 3, 6, 7)))
        self.assertEqual(classes(square, 2, 0), ((0, 1), (2, 3), (4, 5), (6, 7)))
        self.assertEqual(classes(square, 2, 1), ((0, 7), (1, 2), (3, 4), (5, 6)))
        self.assertEqual(class_of(square, 7, 1, 2), (0, 7))
        for i, j in PAIRS:
            self.assertFalse(is_mirrored(torus, 3, i, j))
        self.assertFalse(is_mirrored(square, 3, 0, 1))
        self.assertTrue(is_mirrored(square, 3, 1, 2))
        self.assertTrue(is_mirrored(square, 3, 0, 2))
        self.assertEqual(turn_of(square, 3, 0, 2), 1)
        self.assertEqual(turn_of(square, 3, 1, 2), 2)
        self.assertEqual(round_of(square, 3, 0, 1), 4)

    def test_the_cube_of_one_flag(self):
        cube = samples.CUBE
        self.assertEqual([turn_of(cube, 0, i, j) for i, j in PAIRS], [4, 4, 3, 3, 2, 2])
        self.assertEqual([round_of(cube, 0, i, j) for i, j in PAIRS], [1] * 6)
        self.assertEqual([order_of(cube, 0, i, j) for i, j in PAIRS], [4, 4, 3, 3, 2, 2])

    def test_a_mirror_of_one_change_only(self):
        for row in range(3):
            changes = [(1, 0)] * 3
            changes[row] = (0, 1)
            pattern = tuple(changes) + ((2, 2), (2, 2))
            for i, j in PAIRS:
                self.assertIs(is_mirrored(pattern, 0, i, j), row in (i, j))
                self.assertIs(is_mirrored(pattern, 1, i, j), row in (i, j))


class Walked(unittest.TestCase):
    def test_the_first_one_goes_first(self):
        torus = samples.TORUS
        self.assertEqual(walked(torus, 0, (0, 1)), 2)
        self.assertEqual(walked(torus, 0, (1, 0)), 6)
        self.assertEqual(walked(torus, 0, (0, 1, 2)), 7)

    def test_lists_and_tuples(self):
        rows = ((), (0,), (2,), (0, 1, 2), (2, 1, 0, 1, 2, 2, 0))
        for pattern in PATTERNS[::5] + (samples.TORUS,):
            for flag in range(len(pattern[0])):
                for row in rows:
                    at = flag
                    for step in row:
                        at = pattern[step][at]
                    steps = list(row)
                    self.assertEqual(walked(pattern, flag, row), at)
                    self.assertEqual(walked(pattern, flag, steps), at)
                    self.assertEqual(walked(pattern, flag, steps), at)
                    self.assertEqual(steps, list(row))

    def test_no_steps(self):
        self.assertEqual(walked(samples.TORUS, 5, ()), 5)
        self.assertEqual(walked(samples.TORUS, 5, []), 5)
