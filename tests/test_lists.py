import unittest
from fractions import Fraction
from functools import lru_cache

import samples
from flagfloors.errors import TooMany
from flagfloors.leads import are_alike
from flagfloors.lists import frames, plane_patterns
from flagfloors.names import name_of
from flagfloors.numberings import least
from flagfloors.patterns import breach
from flagfloors.sides import PLANE_NAMES


def listed(changes, flag):
    listing = [flag]
    for at in listing:
        for change in changes:
            if change[at] not in listing:
                listing.append(change[at])
    return listing


def numbered(changes, flag):
    listing = listed(changes, flag)
    return tuple(tuple(listing.index(s[f]) for f in listing) for s in changes)


@lru_cache(maxsize=None)
def plain_frames(count):
    """The least changes of each lot, among those numbered by walks."""
    return tuple(sorted({
        min(numbered(changes, flag) for flag in range(count))
        for changes in samples.small_changes(count)
    }))


def plain_orders(rows, total):
    """All orders of at least 3 for classes (size, round) whose sizes divided by orders add up."""
    if not rows:
        return [()] if total == 0 else []
    (size, turn_round), later = rows[0], rows[1:]
    most_later = sum(Fraction(many, max(3, one)) for many, one in later)
    found = []
    order = turn_round
    while order <= 9999 and Fraction(size, order) + most_later >= total:
        if order >= 3 and Fraction(size, order) <= total:
            for row in plain_orders(later, total - Fraction(size, order)):
                found.append((order,) + row)
        order += turn_round
    return found


def plain_plane_patterns(count):
    """All patterns with a sum of zero and orders of at least 3, whatever their names."""
    found = set()
    for s0, s1, s2 in plain_frames(count):
        rows = []
        for first, second in ((s0, s1), (s1, s2)):
            for f in range(count):
                members = samples.plain_class(first, second, f)
                if members[0] == f:
                    rows.append((members, samples.plain_round(first, second, f)))
        tiles = len({samples.plain_class(s0, s1, f) for f in range(count)})
        sizes = [(len(members), one) for members, one in rows]
        for orders in plain_orders(sizes, Fraction(count, 2)):
            p, q = [0] * count, [0] * count
            for k, (members, _) in enumerate(rows):
                for f in members:
                    (p if k < tiles else q)[f] = orders[k]
            found.add(least((s0, s1, s2, tuple(p), tuple(q))))
    return tuple(sorted(found))


class Frames(unittest.TestCase):
    def test_all_of_them(self):
        for count in (1, 2, 3, 4):
            self.assertEqual(frames(count), plain_frames(count))
        self.assertEqual([len(frames(count)) for count in (1, 2, 3, 4)], [1, 7, 3, 22])

    def test_each_lot_once(self):
        for count in (1, 2, 3, 4):
            found = frames(count)
            blank = (12,) * count
            patterns = [changes + (blank, blank) for changes in found]
            for k, one in enumerate(patterns):
                self.assertIsNone(breach(one))
                self.assertEqual(least(one), one)
                self.assertFalse([other for other in patterns[:k] if are_alike(one, other)])
            self.assertEqual(list(found), sorted(found))
            self.assertIs(type(found), tuple)
            self.assertEqual({len(changes) for changes in found}, {3})

    def test_more_than_4(self):
        for count in (5, 6, 1000):
            with self.assertRaises(TooMany) as caught:
                frames(count)
            self.assertEqual(caught.exception.limit, 4)

    def test_no_flags(self):
        self.assertEqual(frames(0), ())
        self.assertEqual(plane_patterns(0), ())


class PlanePatterns(unittest.TestCase):
    def test_all_of_them(self):
        for count in (1, 2, 3):
            self.assertEqual(plane_patterns(count), plain_plane_patterns(count))

    def test_one_flag(self):
        self.assertEqual(
            plane_patterns(1),
            tuple(((0,), (0,), (0,), (p,), (q,)) for p, q in ((3, 6), (4, 4), (6, 3))),
        )

    def test_each_once_in_the_least_form(self):
        for count in (1, 2, 3):
            found = plane_patterns(count)
            self.assertEqual(list(found), sorted(set(found)))
            self.assertIs(type(found), tuple)
            for k, pattern in enumerate(found):
                self.assertIsNone(breach(pattern))
                self.assertEqual(least(pattern), pattern)
                self.assertGreaterEqual(min(pattern[3] + pattern[4]), 3)
                self.assertIn(name_of(pattern), PLANE_NAMES)
                self.assertFalse([other for other in found[:k] if are_alike(pattern, other)])

    def test_more_than_3(self):
        for count in (4, 5, 1000):
            with self.assertRaises(TooMany) as caught:
                plane_patterns(count)
            self.assertEqual(caught.exception.limit, 3)
