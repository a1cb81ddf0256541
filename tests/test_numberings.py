import unittest
from itertools import permutations

import samples
from flagfloors.numberings import least, renumbered, walk
from flagfloors.patterns import breach

PATTERNS = samples.small_patterns(4) + (samples.TORUS, samples.MIRRORED_SQUARE)


def shuffled(size, step):
    """A listing of all flags; the step has no common divisor with the size."""
    return tuple((step * k + 3) % size for k in range(size))


def plain_walk(pattern, flag):
    listing = [flag]
    for at in listing:
        for change in pattern[:3]:
            if change[at] not in listing:
                listing.append(change[at])
    return tuple(listing)


class Renumbered(unittest.TestCase):
    def test_flag_k_is_the_listed_flag(self):
        for pattern in PATTERNS:
            size = len(pattern[0])
            for listing in (tuple(range(size))[::-1], plain_walk(pattern, size - 1)):
                new = renumbered(pattern, listing)
                self.assertIsNone(breach(new))
                for k in range(size):
                    for row in range(3):
                        self.assertEqual(listing[new[row][k]], pattern[row][listing[k]])
                    for row in (3, 4):
                        self.assertEqual(new[row][k], pattern[row][listing[k]])

    def test_there_and_back(self):
        for pattern, step in ((samples.TORUS, 5), (samples.MIRRORED_SQUARE, 3),
                              (samples.ring(120), 7), (samples.ring(7, 21), 9)):
            size = len(pattern[0])
            listing = shuffled(size, step)
            back = tuple(listing.index(flag) for flag in range(size))
            new = renumbered(pattern, listing)
            self.assertNotEqual(new, pattern)
            self.assertEqual(renumbered(new, back), pattern)
            self.assertEqual(renumbered(pattern, tuple(range(size))), pattern)

    def test_three_flags(self):
        pattern = ((0, 2, 1), (1, 0, 2), (0, 1, 2), (3, 3, 3), (2, 2, 4))
        self.assertEqual(
            renumbered(pattern, (2, 0, 1)),
            ((2, 1, 0), (0, 2, 1), (0, 1, 2), (3, 3, 3), (4, 2, 2)),
        )


class Walk(unittest.TestCase):
    def test_walk_from_every_flag(self):
        for pattern in PATTERNS + (samples.ring(9),):
            for flag in range(len(pattern[0])):
                self.assertEqual(walk(pattern, flag), plain_walk(pattern, flag))

    def test_torus(self):
        self.assertEqual(walk(samples.TORUS, 0), (0, 1, 7, 5, 2, 4, 6, 3))
        self.assertEqual(walk(samples.TORUS, 6), (6, 7, 5, 3, 0, 2, 4, 1))

    def test_one_flag_and_240(self):
        self.assertEqual(walk(samples.CUBE, 0), (0,))
        found = walk(samples.ring(120), 17)
        self.assertEqual(sorted(found), list(range(240)))
        self.assertEqual(found[:5], (17, 16, 18, 15, 19))


class Least(unittest.TestCase):
    def test_least_of_the_walks(self):
        for pattern in PATTERNS:
            expected = min(
                renumbered(pattern, plain_walk(pattern, flag)) for flag in range(len(pattern[0]))
            )
            self.assertEqual(least(pattern), expected)
            self.assertEqual(least(pattern), expected)

    def test_same_for_each_numbering(self):
        for pattern in samples.small_patterns(4)[::3]:
            expected = least(pattern)
            for listing in permutations(range(len(pattern[0]))):
                self.assertEqual(least(renumbered(pattern, listing)), expected)

    def test_same_for_some_numberings_of_greater_ones(self):
        for pattern, step in ((samples.TORUS, 5), (samples.MIRRORED_SQUARE, 3), (samples.ring(120), 7)):
            new = renumbered(pattern, shuffled(len(pattern[0]), step))
            self.assertEqual(least(new), least(pattern))

    def test_unlike_patterns_have_unlike_least_ones(self):
        self.assertNotEqual(least(samples.TORUS), least(samples.MIRRORED_SQUARE))
        self.assertNotEqual(least(samples.ring(4, 8)), least(samples.ring(4)))
