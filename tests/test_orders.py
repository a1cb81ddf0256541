import unittest

import samples
from flagfloors.errors import NotOrder
from flagfloors.orders import reordered
from flagfloors.patterns import breach

WORDS = (("tile", 3, 0, 1), ("corner", 4, 1, 2))
PATTERNS = samples.small_patterns(4)[::3] + (samples.TORUS, samples.MIRRORED_SQUARE)


class Reordered(unittest.TestCase):
    def test_all_flags_of_the_class_and_no_others(self):
        for pattern in PATTERNS:
            for word, row, i, j in WORDS:
                for flag in range(len(pattern[0])):
                    members = samples.plain_class(pattern[i], pattern[j], flag)
                    many = samples.plain_round(pattern[i], pattern[j], flag)
                    for order in (many, 5 * many, 9999 // many * many):
                        found = reordered(pattern, word, flag, order)
                        expected = list(pattern)
                        expected[row] = tuple(
                            order if f in members else pattern[row][f]
                            for f in range(len(pattern[0]))
                        )
                        self.assertEqual(found, tuple(expected))
                        self.assertIsNone(breach(found))

    def test_only_one_of_two_corners(self):
        pattern = samples.MIRRORED_SQUARE
        found = reordered(pattern, "corner", 3, 6)
        self.assertEqual(found, pattern[:4] + ((4, 4, 4, 6, 6, 4, 4, 4),))
        self.assertEqual(reordered(found, "corner", 4, 4), pattern)

    def test_9999(self):
        one = samples.CUBE
        self.assertEqual(reordered(one, "tile", 0, 9999), one[:3] + ((9999,), (3,)))
        self.assertEqual(reordered(one, "corner", 0, 9999), one[:4] + ((9999,),))
        three = samples.ring(3)
        self.assertEqual(reordered(three, "tile", 5, 9999)[3], (9999,) * 6)

    def refused(self, pattern, order):
        for word, _, _, _ in WORDS:
            for _ in range(2):
                with self.assertRaises(NotOrder):
                    reordered(pattern, word, 0, order)

    def test_out_of_range(self):
        for order in (0, -1, -4, -8, 10000, 10004, 10 ** 30, -(10 ** 30)):
            self.refused(samples.CUBE, order)
            self.refused(samples.TORUS, order)

    def test_no_multiple_of_the_round(self):
        for order in (1, 2, 3, 5, 6, 9999):
            self.refused(samples.TORUS, order)
        with self.assertRaises(NotOrder):
            reordered(samples.MIRRORED_SQUARE, "corner", 0, 3)
        self.assertEqual(reordered(samples.MIRRORED_SQUARE, "corner", 0, 2)[4][7], 2)

    def test_no_integer(self):
        for order in (True, False, "4", "", None, 4.0, (4,), [4], {4: 4}, b"4", object()):
            self.refused(samples.CUBE, order)
            self.refused(samples.TORUS, order)
