import unittest
from math import lcm

import plain_covers
import plain_surfaces
import samples
from flagfloors.covers import check_cover, covers, normal_cover
from flagfloors.decks import cover_leads
from flagfloors.errors import TooMany
from flagfloors.stacks import met_cover, stacked

ONE = ((0,), (0,), (0,), (12,), (12,))
TWO = [pattern for pattern in samples.small_patterns(2) if len(pattern[0]) == 2]
BELOW = [ONE, samples.CUBE, samples.TORUS] + TWO[::3]


def numberings(cover):
    """A cover, and the same one numbered in other ways."""
    size = len(cover[1])
    found = [cover, plain_covers.numbered(cover, tuple(range(size))[::-1])]
    step = [step for step in (5, 7, 11) if size % step][0]
    return found + [plain_covers.numbered(cover, plain_surfaces.mixed(size, step))]


def least_over(cover):
    """The least flag over flag 0."""
    return min(f for f in range(len(cover[1])) if cover[1][f] == 0)


def plain_met(a, b):
    """The cover by pairs, straight from [35]."""
    pairs = [(least_over(a), least_over(b))]
    for x, y in pairs:
        for i in range(3):
            if (a[0][i][x], b[0][i][y]) not in pairs:
                pairs.append((a[0][i][x], b[0][i][y]))
    changes = tuple(
        tuple(pairs.index((a[0][i][x], b[0][i][y])) for x, y in pairs) for i in range(3)
    )
    orders = tuple(tuple(a[0][i][x] for x, _ in pairs) for i in (3, 4))
    return plain_covers.plain_normal((changes + orders, tuple(a[1][x] for x, _ in pairs)))


def ring_cover_of_rings(many, order):
    """A tile of many sides at mirrors over one of one side."""
    return (samples.ring(many, order), tuple(f % 2 for f in range(2 * many)))


class Stacked(unittest.TestCase):
    def test_the_ways_down_one_after_another(self):
        counts = set()
        for pattern in BELOW:
            for sheets, more in ((1, 1), (1, 2), (2, 1), (2, 2), (2, 3), (3, 2)):
                if len(pattern[0]) * sheets * more * more > 72:
                    continue
                for cover in covers(pattern, sheets)[:4]:
                    for upper in covers(cover[0], more)[:4]:
                        found = stacked(cover, upper)
                        row = tuple(cover[1][f] for f in upper[1])
                        self.assertEqual(found, plain_covers.plain_normal((upper[0], row)))
                        self.assertIs(check_cover(pattern, found), found)
                        self.assertEqual(len(found[1]), sheets * more * len(pattern[0]))
                        counts.add((sheets, more))
        self.assertLessEqual({(1, 2), (2, 1), (2, 2), (2, 3), (3, 2)}, counts)

    def test_however_they_are_numbered(self):
        for pattern in (ONE, TWO[4], TWO[-1]):
            for cover in covers(pattern, 2)[:4]:
                expected = None
                for below in numberings(cover):
                    # The upper cover carried to the other numbering of the pattern in between.
                    way = cover_leads(cover, below)[0]
                    for upper in covers(cover[0], 2)[1:2]:
                        carried = (upper[0], tuple(way[f] for f in upper[1]))
                        for top in numberings(carried):
                            check_cover(below[0], top)
                            found = stacked(below, top)
                            expected = expected or found
                            self.assertEqual(found, expected)
                            self.assertEqual(normal_cover(found), found)

    def test_one_sheet_above_or_below(self):
        for pattern in BELOW:
            one = (pattern, tuple(range(len(pattern[0]))))
            for cover in covers(pattern, 2)[:3]:
                self.assertEqual(stacked(one, cover), cover)
                above = (cover[0], tuple(range(len(cover[1]))))
                self.assertEqual(stacked(cover, above), cover)

    def test_240_flags(self):
        cover = ring_cover_of_rings(2, 120)
        upper = (samples.ring(120, 120), tuple(f % 4 for f in range(240)))
        check_cover(cover[0], upper)
        found = stacked(cover, upper)
        self.assertEqual(len(found[1]), 240)
        self.assertEqual(found[1].count(0), 120)


class MetCover(unittest.TestCase):
    def test_as_the_point_makes_it(self):
        many = set()
        for pattern in BELOW:
            lots = [cover for sheets in (1, 2) for cover in covers(pattern, sheets)[:5]]
            if len(pattern[0]) == 1:
                lots += covers(pattern, 3) + covers(pattern, 4)[::3]
            for a in lots:
                for b in lots:
                    found = met_cover(a, b)
                    self.assertEqual(found, plain_met(a, b))
                    self.assertIs(check_cover(pattern, found), found)
                    self.assertEqual(normal_cover(found), found)
                    self.assertTrue(cover_leads(found, a))
                    self.assertTrue(cover_leads(found, b))
                    many.add((len(a[1]), len(b[1]), len(found[1])))
        self.assertLessEqual({(2, 2, 4), (2, 2, 2), (2, 3, 6), (3, 3, 3), (3, 3, 9)}, many)

    def test_other_numberings(self):
        # What is met depends on which flags are the least ones over flag 0.
        differing = 0
        for a in covers(ONE, 3) + covers(ONE, 4)[::2]:
            for b in covers(ONE, 3)[::2]:
                found = []
                for other in numberings(b):
                    met = met_cover(a, other)
                    self.assertEqual(met, plain_met(a, other))
                    self.assertTrue(cover_leads(met, a))
                    self.assertTrue(cover_leads(met, other))
                    found.append(met)
                differing += len(set(found)) > 1
        self.assertGreater(differing, 0)

    def test_least_flags_over_flag_0(self):
        # Over flag 0 of a pattern of two flags, the least flag is not always flag 0.
        below = TWO[-1]
        for cover in covers(below, 2) + covers(below, 3)[:4]:
            for other in numberings(cover):
                self.assertEqual(met_cover(cover, other), plain_met(cover, other))
        self.assertTrue(any(
            least_over(other) > 0 for cover in covers(below, 3)[:4] for other in numberings(cover)
        ))

    def test_with_itself_and_with_one_sheet(self):
        for pattern in BELOW:
            one = (pattern, tuple(range(len(pattern[0]))))
            for sheets in (1, 2, 3):
                if len(pattern[0]) * sheets * sheets > 72:
                    continue
                for cover in covers(pattern, sheets)[:6]:
                    self.assertEqual(met_cover(cover, cover), cover)
                    self.assertEqual(met_cover(cover, one), cover)
                    self.assertEqual(met_cover(one, cover), cover)
                    for other in numberings(cover):
                        self.assertEqual(met_cover(other, other), cover)

    def test_240_flags_and_more(self):
        for m, n in ((8, 15), (120, 120), (5, 24), (1, 120), (40, 3)):
            a, b = ring_cover_of_rings(m, 120), ring_cover_of_rings(n, 120)
            found = met_cover(a, b)
            self.assertEqual(len(found[1]), 240)
            self.assertEqual(found, met_cover(b, a))
            self.assertIs(check_cover(samples.ring(1, 120), found), found)
        for m, n in ((11, 12), (11, 111), (2, 119), (120, 9), (101, 99)):
            order = lcm(m, n)
            for _ in range(2):
                with self.assertRaises(TooMany) as caught:
                    met_cover(ring_cover_of_rings(m, order), ring_cover_of_rings(n, order))
                self.assertEqual(caught.exception.limit, 240)
