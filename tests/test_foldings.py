import unittest
from itertools import product

import samples
from flagfloors.errors import NotFolding, TooMany
from flagfloors.foldings import (
    check_folding, coarsest, folded, foldings, is_finer, joined, met,
)
from flagfloors.glue import glued
from flagfloors.leads import selves
from flagfloors.orders import reordered
from flagfloors.patterns import breach

GREATER = (
    samples.TORUS, samples.MIRRORED_SQUARE, samples.ring(3), samples.ring(4),
    reordered(samples.MIRRORED_SQUARE, "corner", 0, 2), samples.path(7), samples.path(6),
    glued(((1, 2, 3), (3, 2))),
)
PATTERNS = samples.small_patterns(4)[::2] + GREATER


def plain_foldings(pattern):
    rows = samples.partitions(len(pattern[0]))
    return tuple(row for row in rows if samples.is_plain_folding(pattern, row))


def is_plain_finer(a, b):
    flags = range(len(a))
    return all(b[f] == b[g] for f in flags for g in flags if a[f] == a[g])


def plain_place(pattern, row):
    """The place of check_folding for a row of the right length, None for a folding."""
    for k, number in enumerate(row):
        if number < 0 or number > max(row[:k], default=-1) + 1:
            return k
    for k, number in enumerate(row):
        first = row.index(number)
        if any(pattern[i][k] != pattern[i][first] for i in (3, 4)):
            return k
        if any(row[s[k]] != row[s[first]] for s in pattern[:3]):
            return k
    return None


class CheckFolding(unittest.TestCase):
    def refused(self, pattern, value, place):
        for _ in range(2):
            with self.assertRaises(NotFolding) as caught:
                check_folding(pattern, value)
            self.assertEqual(caught.exception.place, place, (pattern, value))

    def test_the_very_value(self):
        for pattern in PATTERNS:
            for row in plain_foldings(pattern):
                self.assertIs(check_folding(pattern, row), row)

    def test_values_of_another_kind(self):
        for value in (None, 0, True, "00", b"\x00", [0, 0], {0: 0, 1: 0}, object(), ("0", "0"),
                      (0, True), (False, 0), (0, None), (0.0, 0.0), ((0,), (0,)), ([0], [0])):
            self.refused(samples.SWAP_0, value, -1)

    def test_other_lengths(self):
        for value in ((), (0,), (0, 0, 0), (5,), (-1, 0, 0)):
            self.refused(samples.SWAP_0, value, -1)

    def test_numbers_that_do_not_fit_in(self):
        self.refused(samples.SWAP_0, (1, 0), 0)
        self.refused(samples.SWAP_0, (-1, 0), 0)
        self.refused(samples.SWAP_0, (0, 2), 1)
        self.refused(samples.SWAP_0, (0, -1), 1)
        self.refused(samples.SWAP_0, (0, 10 ** 30), 1)
        self.refused(samples.TORUS, (0, 1, 0, 2, 4, 3, 9, 9), 4)

    def test_unlike_orders(self):
        pattern = ((0, 1), (0, 1), (1, 0), (3, 4), (2, 2))
        self.refused(pattern, (0, 0), 1)
        pattern = ((1, 0), (0, 1), (0, 1), (2, 2), (3, 4))
        self.refused(pattern, (0, 0), 1)
        self.refused(reordered(samples.ring(3), "corner", 3, 4), (0,) * 6, 3)

    def test_not_carried(self):
        for i in range(3):
            changes = [(0, 1, 2)] * 3
            changes[i] = (2, 1, 0)
            other = 1 if i != 1 else 0
            changes[other] = (1, 0, 2)
            pattern = tuple(changes) + ((6,) * 3, (6,) * 3)
            self.assertIsNone(check_or_none(pattern, (0, 1, 2)))
            self.refused(pattern, (0, 0, 1), 1)

    def test_every_row_of_small_numbers(self):
        for pattern in samples.small_patterns(3) + samples.small_patterns(4)[70::40]:
            size = len(pattern[0])
            for row in product(range(-1, size + 1), repeat=size):
                place = plain_place(pattern, row)
                if place is None:
                    self.assertIs(check_folding(pattern, row), row)
                    self.assertTrue(samples.is_plain_folding(pattern, row))
                else:
                    self.refused(pattern, row, place)

    def test_every_partition(self):
        for pattern in GREATER:
            for row in samples.partitions(len(pattern[0])):
                place = plain_place(pattern, row)
                if place is not None:
                    with self.assertRaises(NotFolding) as caught:
                        check_folding(pattern, row)
                    self.assertEqual(caught.exception.place, place)


def check_or_none(pattern, row):
    """None if a row is a folding, otherwise the error."""
    try:
        check_folding(pattern, row)
    except NotFolding as error:
        return error
    return None


class Folded(unittest.TestCase):
    def test_the_image_has_a_lead_that_is_the_folding(self):
        for pattern in PATTERNS:
            for row in plain_foldings(pattern):
                image = folded(pattern, row)
                self.assertIsNone(breach(image))
                self.assertEqual(len(image[0]), max(row) + 1)
                self.assertTrue(samples.is_plain_lead(pattern, image, row))

    def test_finest_and_whole(self):
        torus = samples.TORUS
        self.assertEqual(folded(torus, tuple(range(8))), torus)
        self.assertEqual(folded(torus, (0,) * 8), ((0,), (0,), (0,), (4,), (4,)))
        self.assertEqual(folded(glued(samples.CUBE_TILES), (0,) * 48), samples.CUBE)


class Foldings(unittest.TestCase):
    def test_among_all_partitions(self):
        for pattern in PATTERNS:
            self.assertEqual(foldings(pattern), plain_foldings(pattern))
            self.assertIn(tuple(range(len(pattern[0]))), foldings(pattern))

    def test_24_and_25_flags(self):
        for pattern in (samples.ring(12), samples.path(24), glued(samples.TETRAHEDRON_TILES)):
            found = foldings(pattern)
            self.assertEqual(found, tuple(sorted(found)))
            self.assertEqual(len(found), len(set(found)))
            for row in found:
                self.assertIs(check_folding(pattern, row), row)
        # The subgroups of the symmetries of the tetrahedron and of a twelve-sided tile.
        self.assertEqual(len(foldings(glued(samples.TETRAHEDRON_TILES))), 30)
        self.assertEqual(len(foldings(samples.ring(12))), 34)
        for pattern in (samples.path(25), samples.ring(13), samples.ring(120)):
            self.assertIsNone(breach(pattern))
            for _ in range(2):
                with self.assertRaises(TooMany) as caught:
                    foldings(pattern)
                self.assertEqual(caught.exception.limit, 24)

    def test_finer(self):
        for pattern in PATTERNS[::4] + GREATER[:4]:
            rows = foldings(pattern)
            for a in rows:
                for b in rows:
                    self.assertIs(is_finer(a, b), is_plain_finer(a, b))
                self.assertTrue(is_finer(a, a))

    def test_met_and_joined(self):
        for pattern in PATTERNS[::4] + GREATER:
            rows = foldings(pattern)
            for a in rows:
                for b in rows:
                    below = [c for c in rows if is_plain_finer(c, a) and is_plain_finer(c, b)]
                    above = [c for c in rows if is_plain_finer(a, c) and is_plain_finer(b, c)]
                    self.assertIn(met(a, b), below)
                    self.assertTrue(all(is_plain_finer(c, met(a, b)) for c in below))
                    self.assertIn(joined(a, b), above)
                    self.assertTrue(all(is_plain_finer(joined(a, b), c) for c in above))

    def test_met_and_joined_of_many_flags(self):
        size = 240
        a = tuple(f % 12 for f in range(size))
        b = tuple(f % 20 for f in range(size))
        self.assertEqual(joined(a, b), tuple(f % 4 for f in range(size)))
        self.assertEqual(met(a, b), tuple(f % 60 for f in range(size)))


class Coarsest(unittest.TestCase):
    def test_all_are_finer(self):
        for pattern in PATTERNS:
            found = coarsest(pattern)
            rows = plain_foldings(pattern)
            self.assertIn(found, rows)
            self.assertTrue(all(is_plain_finer(row, found) for row in rows))

    def test_far_more_than_24_flags(self):
        self.assertEqual(coarsest(samples.ring(120)), (0,) * 240)
        self.assertEqual(coarsest(glued(samples.CUBE_TILES)), (0,) * 48)
        marked = reordered(samples.ring(120), "corner", 0, 4)
        self.assertEqual(coarsest(marked), tuple(min(f, 239 - f) for f in range(240)))
        for other in (60, 80):
            twice = reordered(marked, "corner", 2 * other, 4)
            found = coarsest(twice)
            self.assertIs(check_folding(twice, found), found)
            self.assertEqual(selves(folded(twice, found)), (tuple(range(max(found) + 1)),))
        third = coarsest(reordered(reordered(marked, "corner", 80, 4), "corner", 160, 4))
        self.assertEqual(max(third) + 1, 40)

    def test_a_long_path(self):
        plain = samples.path(200)
        self.assertEqual(coarsest(plain), (0,) * 200)
        # The orders tell one end from the rest, and so each flag from each other one.
        marked = reordered(plain, "corner", 0, 4)
        self.assertEqual(coarsest(marked), tuple(range(200)))
        self.assertEqual(folded(marked, coarsest(marked)), marked)
