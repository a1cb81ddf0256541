import unittest

import plain_covers
import plain_surfaces
import samples
from flagfloors.covers import check_cover, covers, normal_cover
from flagfloors.errors import FlagError, NotCover, TooMany
from flagfloors.names import name_of, name_sum
from flagfloors.orders import reordered
from flagfloors.ratios import ratio, times

ONE = [((0,), (0,), (0,), (p,), (q,)) for p, q in ((4, 3), (1, 1), (2, 6), (12, 12), (5, 7))]
TWO = [pattern for pattern in samples.small_patterns(2) if len(pattern[0]) == 2]
THREE = [pattern for pattern in samples.small_patterns(3) if len(pattern[0]) == 3]
FOUR = [pattern for pattern in samples.small_patterns(4) if len(pattern[0]) == 4]
SMALL = (
    [(pattern, sheets) for pattern in ONE for sheets in (1, 2, 3, 4)]
    + [(pattern, sheets) for pattern in TWO for sheets in (1, 2, 3)]
    + [(pattern, 2) for pattern in THREE[::2] + FOUR[3::23]]
)


class Covers(unittest.TestCase):
    def test_against_all_tables_with_sheets(self):
        counts = set()
        for pattern, sheets in SMALL:
            found = covers(pattern, sheets)
            self.assertEqual(found, plain_covers.plain_covers(pattern, sheets), (pattern, sheets))
            counts.add(len(found))
        self.assertLessEqual({0, 1, 7}, counts)

    def test_each_once_ascending_in_normal_form(self):
        for pattern, sheets in SMALL + [(ONE[0], 8), (samples.TORUS, 3), (ONE[3], 6)]:
            found = covers(pattern, sheets)
            self.assertIs(type(found), tuple)
            self.assertEqual(list(found), sorted(set(found)))
            for cover in found:
                self.assertIs(check_cover(pattern, cover), cover)
                self.assertEqual(normal_cover(cover), cover)
                self.assertEqual(len(cover[1]), sheets * len(pattern[0]))

    def test_the_sum_goes_with_the_sheets(self):
        for pattern, sheets in SMALL:
            for above, _ in covers(pattern, sheets):
                expected = times(ratio(sheets, 1), name_sum(name_of(pattern)))
                self.assertEqual(name_sum(name_of(above)), expected)

    def test_torus(self):
        # The subgroups of index k of the translations, and no others.
        for sheets, many in ((1, 1), (2, 3), (3, 4)):
            found = covers(samples.TORUS, sheets)
            self.assertEqual(len(found), many)
            for above, _ in found:
                self.assertEqual(name_of(above), (1, (), (), 0))

    def test_a_ball_has_no_other_cover(self):
        ball = samples.plain_glued(((1, -1),))
        self.assertEqual(covers(ball, 2), ())
        self.assertEqual(covers(ball, 3), ())
        half = samples.plain_glued(((1, 1),))
        self.assertEqual([name_of(above) for above, _ in covers(half, 2)], [(0, (), (), 0)])
        self.assertEqual(covers(half, 4), ())

    def test_one_sheet(self):
        for pattern in (samples.CUBE, samples.TORUS, samples.ring(120), samples.path(240)):
            size = len(pattern[0])
            found = covers(pattern, 1)
            self.assertEqual(found, (normal_cover((pattern, tuple(range(size)))),))
            above, lead = found[0]
            self.assertEqual(sorted(lead), list(range(size)))
            self.assertEqual(lead[0], 0)
            self.assertIs(check_cover(pattern, found[0]), found[0])
        other = plain_covers.numbered((samples.TORUS, tuple(range(8))), [3, 1, 2, 0, 4, 7, 6, 5])[0]
        self.assertEqual(covers(other, 1), plain_covers.plain_covers(other, 1))

    def test_no_sheets(self):
        for pattern in (samples.CUBE, samples.TORUS):
            self.assertEqual(covers(pattern, 0), ())
            self.assertEqual(covers(pattern, -1), ())

    def test_just_72(self):
        path = reordered(samples.path(18, 4), "tile", 0, 36)
        found = covers(path, 2)
        # All covers with two sheets are regular, so that they are one less than a power of 2.
        self.assertEqual(len(found) & (len(found) + 1), 0)
        self.assertGreater(len(found), 500)
        for cover in found[::97]:
            self.assertEqual(normal_cover(cover), check_cover(path, cover))
        self.assertEqual(len(covers(samples.TORUS, 3)), 4)
        self.assertGreater(len(covers(TWO[-1], 6)), 0)
        self.assertGreater(len(covers(ONE[0], 8)), 0)

    def test_above_72(self):
        for pattern, sheets in (
            (samples.path(19), 2), (samples.path(9), 3), (samples.path(5), 4), (samples.path(3), 5),
            (samples.path(2), 7), (ONE[0], 9), (ONE[1], 9), (samples.ring(120), 2),
            (samples.CUBE, 1000),
        ):
            for _ in range(2):
                with self.assertRaises(TooMany) as caught:
                    covers(pattern, sheets)
                self.assertEqual(caught.exception.limit, 72)

    def test_symmetries_of_the_cube(self):
        # Its full group of 48 has the rotations and two other groups of half its size.
        self.assertEqual([name_of(above) for above, _ in covers(samples.CUBE, 2)].count(
            (0, (2, 3, 4), (), 0)), 1)
        self.assertEqual(len(covers(samples.CUBE, 2)), 3)
        whole = samples.plain_glued(samples.CUBE_TILES)
        self.assertIs(check_cover(samples.CUBE, (whole, (0,) * 48))[0], whole)


class NormalCover(unittest.TestCase):
    def test_the_same_for_each_numbering(self):
        for pattern, sheets in SMALL[::3] + [(samples.TORUS, 3)]:
            for cover in covers(pattern, sheets)[:8]:
                size = len(cover[1])
                listings = [tuple(range(size))[::-1], tuple(range(1, size)) + (0,)]
                listings += [plain_surfaces.mixed(size, step) for step in (5, 7) if size % step]
                for listing in listings:
                    other = plain_covers.numbered(cover, listing)
                    self.assertEqual(normal_cover(other), cover)
                    self.assertEqual(normal_cover(other), plain_covers.plain_normal(other))

    def test_it_begins_over_flag_0(self):
        above = samples.plain_glued(((1, 2, 3, 4),))
        self.assertEqual(above[3:], ((4,) * 8, (2,) * 8))
        below = ((1, 0), (0, 1), (0, 1), (4, 4), (2, 2))
        lead = (1, 0, 0, 1, 1, 0, 0, 1)
        cover = check_cover(below, (above, lead))
        found = normal_cover(cover)
        self.assertEqual(found, plain_covers.plain_normal(cover))
        self.assertEqual(found[1][0], 0)


class CheckCover(unittest.TestCase):
    def refused(self, pattern, value):
        for _ in range(2):
            with self.assertRaises(NotCover) as caught:
                check_cover(pattern, value)
            self.assertIs(type(caught.exception), NotCover)
            self.assertIsInstance(caught.exception, FlagError)

    def setUp(self):
        self.below = samples.TORUS
        self.cover = covers(self.below, 2)[0]

    def test_the_very_value(self):
        self.assertIs(check_cover(self.below, self.cover), self.cover)
        for pattern, sheets in SMALL[::4]:
            for above, lead in covers(pattern, sheets):
                listing = tuple(range(len(lead)))[::-1]
                value = plain_covers.numbered((above, lead), listing)
                self.assertIs(check_cover(pattern, value), value)

    def test_wrong_leads(self):
        above, lead = self.cover
        for k in range(len(lead)):
            for under in range(-2, 10):
                if under != lead[k]:
                    self.refused(self.below, (above, lead[:k] + (under,) + lead[k + 1:]))
        self.refused(self.below, (above, lead[:-1]))
        self.refused(self.below, (above, lead + (0,)))
        self.refused(self.below, (above, ()))
        self.refused(self.below, (above, (0,) * 16))

    def test_wrong_changes(self):
        above, lead = self.cover
        for i in range(3):
            for k in range(16):
                for after in (-1, 0, 5, 16):
                    if after != above[i][k]:
                        row = above[i][:k] + (after,) + above[i][k + 1:]
                        self.refused(self.below, (above[:i] + (row,) + above[i + 1:], lead))

    def test_wrong_orders(self):
        above, lead = self.cover
        self.refused(self.below, (reordered(above, "tile", 0, 8), lead))
        self.refused(self.below, (reordered(above, "corner", 3, 8), lead))
        self.refused(reordered(self.below, "corner", 3, 8), self.cover)
        for k in (3, 4):
            row = above[k][:7] + (3,) + above[k][8:]
            self.refused(self.below, (above[:k] + (row,) + above[k + 1:], lead))

    def test_other_lengths(self):
        above, lead = self.cover
        for value in ((above,), (above, lead, lead), (), (lead, above), (above[:4], lead),
                      (above + (lead,), lead), (above, (lead,))):
            self.refused(self.below, value)

    def test_two_copies_side_by_side(self):
        twice = tuple(row + tuple(8 + f for f in row) for row in self.below[:3])
        self.refused(self.below, (twice + ((4,) * 16, (4,) * 16), tuple(range(8)) * 2))

    def test_other_kinds(self):
        above, lead = self.cover
        for value in (None, 0, True, "", b"", [], {}, set(), object(), 1.5, [above, lead],
                      (list(above), lead), (above, list(lead)), (None, lead), (above, None),
                      (above, "0" * 16), (0, 0), ((), ()), (above, 0), (above, (None,) * 16),
                      (above, tuple(float(f) for f in lead))):
            self.refused(self.below, value)

    def test_true_and_false(self):
        above, lead = self.cover
        as_bool = tuple(bool(f) if f < 2 else f for f in lead)
        self.assertEqual(as_bool, lead)
        self.refused(self.below, (above, as_bool))
        row = tuple(bool(f) if f < 2 else f for f in above[0])
        self.refused(self.below, ((row,) + above[1:], lead))
        self.refused(samples.CUBE, (samples.CUBE, (False,)))

    def test_240_flags_and_more(self):
        path = samples.path(240)
        value = (path, tuple(range(240)))
        self.assertIs(check_cover(path, value), value)
        above = ((0,) * 241, (0,) * 241, (0,) * 241, (4,) * 241, (3,) * 241)
        self.refused(samples.CUBE, (above, (0,) * 241))
