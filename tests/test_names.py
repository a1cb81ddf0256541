import unittest

import plain_surfaces
import samples
from flagfloors.errors import FlagError, NotName
from flagfloors.glue import glued
from flagfloors.names import check_name, name_of, name_sum, normal_name
from flagfloors.numberings import renumbered
from flagfloors.orders import reordered
from flagfloors.surfaces import flag_sum

PATTERNS = plain_surfaces.many_patterns()


def turned(tile, *corners):
    """One tile, glued, in which the corners where one leaves some sides have other orders."""
    pattern = glued((tile,))
    for side, order in corners:
        pattern = reordered(pattern, "corner", 2 * side + 1, order)
    return pattern


def two_borders(first, second, join=()):
    """A tile with two holes, whose three mirrors each have the turns of a row.

    The holes are gone round in one sense; join has sides ahead of them.
    """
    k = len(join)
    tile = join + (11, 12, 13, 14, -11, 21, 22, 23, 24, -21)
    corners = []
    for at, row in ((k, first), (k + 5, second)):
        corners += [(at + 1, 2 * row[0]), (at + 2, 2 * row[1]), (at, 4 * row[2])]
    return turned(tile, *corners)


class NameOf(unittest.TestCase):
    def test_against_triangles(self):
        for pattern in PATTERNS:
            found = name_of(pattern)
            self.assertEqual(found, plain_surfaces.plain_name(pattern), pattern)
            self.assertEqual(type(found[0]), int)
            self.assertIs(check_name(found), found)

    def test_the_kinds_that_the_patterns_have(self):
        names = {name_of(pattern) for pattern in PATTERNS}
        self.assertTrue(any(handles > 0 for handles, _, _, _ in names))
        self.assertTrue(any(crosscaps > 1 for _, _, _, crosscaps in names))
        self.assertTrue(any(len(turns) > 1 for _, turns, _, _ in names))
        self.assertTrue(any(() in borders for _, _, borders, _ in names))
        self.assertTrue(any(len(borders) > 1 for _, _, borders, _ in names))
        self.assertTrue(any(borders and crosscaps for _, _, borders, crosscaps in names))

    def test_known_names(self):
        for pattern, name in (
            (samples.CUBE, (0, (), ((2, 3, 4),), 0)),
            (((0,), (0,), (0,), (1,), (1,)), (0, (), ((2,),), 0)),
            (samples.TORUS, (1, (), (), 0)),
            (glued(samples.CUBE_TILES), (0, (), (), 0)),
            (glued(((1, 2, -1, 2),)), (0, (), (), 2)),
            (glued(((1, 1),)), (0, (), (), 1)),
            (samples.MIRRORED_SQUARE, (0, (), ((2, 2, 2, 2),), 0)),
            (glued(((1, 2, -1, 3),)), (0, (), ((), ()), 0)),
            (glued(((1, 2, 1, 3),)), (0, (), ((),), 1)),
            (turned((1, -1, 2, -2, 3, -3), (0, 5), (2, 2), (4, 3)), (0, (2, 3, 5), (), 0)),
            (reordered(samples.MIRRORED_SQUARE, "tile", 0, 12), (0, (3,), ((2, 2, 2, 2),), 0)),
        ):
            self.assertEqual(name_of(pattern), name)

    def test_an_edge_may_have_a_turn(self):
        # One flag, whose corner on the edge is the only one with a turn.
        self.assertEqual(name_of(((0,), (0,), (0,), (1,), (1,))), (0, (), ((2,),), 0))
        # Change 0 exchanges the two flags, change 2 does, too: the edge is turned round.
        self.assertEqual(name_of(((1, 0), (0, 1), (1, 0), (2, 2), (2, 2))), (0, (2,), ((),), 0))

    def test_the_same_however_the_flags_are_numbered(self):
        for pattern in PATTERNS:
            size = len(pattern[0])
            for listing in (tuple(range(size))[::-1], tuple(range(1, size)) + (0,)):
                other = renumbered(pattern, listing)
                self.assertEqual(name_of(other), name_of(pattern))

    def test_borders_in_one_sense(self):
        same = two_borders((2, 3, 4), (2, 3, 5))
        other = two_borders((2, 3, 4), (2, 5, 3))
        self.assertEqual(name_of(same), (0, (), ((2, 3, 4), (2, 3, 5)), 0))
        self.assertEqual(name_of(other), (0, (), ((2, 3, 4), (2, 5, 3)), 0))
        both_back = two_borders((4, 3, 2), (5, 3, 2))
        self.assertEqual(name_of(both_back), name_of(same))
        for step in (3, 7, 9):
            listing = plain_surfaces.mixed(20, step)
            self.assertEqual(name_of(renumbered(other, listing)), name_of(other))
            self.assertEqual(name_of(renumbered(same, listing)), name_of(same))

    def test_borders_in_one_sense_with_handles(self):
        join = (1, 2, -1, -2)
        self.assertEqual(name_of(two_borders((4, 3, 2), (2, 3, 5), join)),
                         (1, (), ((2, 3, 4), (2, 5, 3)), 0))
        self.assertEqual(name_of(two_borders((4, 3, 2), (2, 5, 3), join)),
                         (1, (), ((2, 3, 4), (2, 3, 5)), 0))

    def test_borders_each_by_itself_with_crosscaps(self):
        name = (0, (), ((2, 3, 4), (2, 3, 5)), 1)
        for first, second in (((2, 3, 4), (2, 3, 5)), ((2, 3, 4), (2, 5, 3)),
                              ((4, 3, 2), (3, 5, 2)), ((3, 4, 2), (5, 3, 2))):
            self.assertEqual(name_of(two_borders(first, second, (1, 1))), name)
        self.assertEqual(name_of(two_borders((2, 3, 4), (2, 5, 3), (1, 1, 2, 2)))[3], 2)

    def test_240_flags(self):
        ring = samples.ring(120)
        self.assertEqual(name_of(ring), (0, (), ((),), 0))
        labels = tuple(range(1, 61))
        self.assertEqual(name_of(glued((labels + labels,))), (0, (), (), 1))
        pairs = tuple(a for k in range(1, 61, 2) for a in (k, k + 1, -k, -k - 1))
        self.assertEqual(name_of(glued((pairs,))), (30, (), (), 0))
        twice = tuple(a for k in range(1, 61) for a in (k, k))
        self.assertEqual(name_of(glued((twice,))), (0, (), (), 60))


class NormalName(unittest.TestCase):
    def test_plain(self):
        self.assertEqual(normal_name(0, (), (), 0), (0, (), (), 0))
        self.assertEqual(normal_name(2, (3, 2), ((),), 0), (2, (2, 3), ((),), 0))

    def test_orders_of_1_are_left_out(self):
        self.assertEqual(normal_name(0, (1, 3, 1, 2), ((1,), (1, 2, 1, 2)), 0),
                         (0, (2, 3), ((), (2, 2)), 0))
        self.assertEqual(normal_name(0, (1, 1), ((4, 1, 3),), 1), (0, (), ((3, 4),), 1))

    def test_handles_beside_crosscaps(self):
        self.assertEqual(normal_name(1, (), (), 1), (0, (), (), 3))
        self.assertEqual(normal_name(60, (), (), 60), (0, (), (), 180))
        self.assertEqual(normal_name(60, (), (), 0), (60, (), (), 0))

    def test_entries_in_another_sequence(self):
        for turns in ((2, 3, 9999), (9999, 3, 2), (3, 9999, 2)):
            self.assertEqual(normal_name(0, turns, (), 0), (0, (2, 3, 9999), (), 0))

    def test_borders_begun_elsewhere_and_all_read_backward(self):
        rows = ((2, 3, 4), (2, 5, 3), ())
        name = (0, (), ((), (2, 3, 4), (2, 5, 3)), 0)
        self.assertEqual(normal_name(0, (), rows, 0), name)
        for first in plain_surfaces.all_begins(rows[0]):
            for second in plain_surfaces.all_begins(rows[1]):
                for told in ((first, second, ()), ((), second, first)):
                    self.assertEqual(normal_name(0, (), told, 0), name)
                    back = tuple(row[::-1] for row in told)
                    self.assertEqual(normal_name(0, (), back, 0), name)
                    self.assertEqual(normal_name(0, (), told, 1), normal_name(0, (), rows, 1))

    def test_one_border_backward_is_another_name_without_crosscaps(self):
        rows = ((2, 3, 4), (2, 5, 3))
        turned_round = (rows[0], rows[1][::-1])
        self.assertNotEqual(normal_name(0, (), rows, 0), normal_name(0, (), turned_round, 0))
        self.assertNotEqual(normal_name(3, (), rows, 0), normal_name(3, (), turned_round, 0))
        self.assertEqual(normal_name(0, (), rows, 1), normal_name(0, (), turned_round, 1))
        self.assertEqual(normal_name(0, (), rows, 1)[2], ((2, 3, 4), (2, 3, 5)))

    def test_against_all_begins(self):
        rows = [(), (2,), (3, 2), (3, 2, 2), (2, 4, 3), (4, 2, 3, 3), (3, 4, 3, 2), (2, 2, 2, 3, 2)]
        for a in rows:
            for b in rows:
                for crosscaps in (0, 1, 4):
                    expected = plain_surfaces.plain_form((a, b), crosscaps == 0)
                    self.assertEqual(normal_name(0, (), (a, b), crosscaps)[2], expected)
                    again = normal_name(0, (), expected, crosscaps)
                    self.assertEqual(again, (0, (), expected, crosscaps))


class CheckName(unittest.TestCase):
    def refused(self, value):
        for _ in range(2):
            with self.assertRaises(NotName) as caught:
                check_name(value)
            self.assertIs(type(caught.exception), NotName)
            self.assertIsInstance(caught.exception, FlagError)

    def test_the_very_value(self):
        for value in (
            (0, (), (), 0), (60, (), (), 0), (0, (), (), 180), (0, (2, 2, 9999), (), 0),
            (0, (), ((), (), (2,), (2, 9999)), 0), (3, (5,), ((2, 3, 4), (2, 5, 3)), 0),
            (0, (7,), ((2, 3, 4), (2, 3, 5)), 2),
        ):
            self.assertIs(check_name(value), value)

    def test_entries_out_of_range(self):
        for value in (
            (61, (), (), 0), (-1, (), (), 0), (0, (), (), 181), (0, (), (), -1), (0, (1,), (), 0),
            (0, (10000,), (), 0), (0, (0,), (), 0), (0, (-2,), (), 0), (0, (1, 2), (), 0),
            (0, (), ((1,),), 0), (0, (), ((10000,),), 0), (0, (), ((2, 3), (1, 2)), 0),
        ):
            self.refused(value)

    def test_no_normal_form(self):
        for value in (
            (0, (3, 2), (), 0), (0, (), ((3, 2),), 0), (0, (), ((2,), ()), 0),
            (0, (), ((2, 4, 3),), 0), (0, (), ((2, 4, 3), (2, 5, 3)), 0),
            (0, (), ((2, 3, 4), (2, 5, 3)), 1), (0, (), ((2, 4, 3),), 1),
            (1, (), (), 1), (60, (), (), 180), (1, (2,), ((2,),), 2),
        ):
            self.refused(value)

    def test_other_kinds(self):
        for value in (
            None, 0, True, "o", "", b"", [], [0, (), (), 0], {}, set(), object(), 1.5,
            (), (0, (), ()), (0, (), (), 0, 0), (True, (), (), 0), (False, (), (), 0),
            (0, (), (), True), (0, (), (), False), (0, [], (), 0), (0, (), [], 0),
            (0, (True,), (), 0), (0, (2, True), (), 0), (0, (), ((True,),), 0), (0, (), ([2],), 0),
            (0, (), (2,), 0), (0, ((2,),), (), 0), (0, "2", (), 0), (0, (), "2", 0),
            (0, (), ("2",), 0), (0, ("2",), (), 0), ("0", (), (), 0), (0, (), (), "0"),
            (0, (), (), None), (None, (), (), 0), (0, None, (), 0), (0, (), None, 0),
            (0, (2.0,), (), 0), (0.0, (), (), 0), (0, (), ((2.0,),), 0), ([], [], [], []),
        ):
            self.refused(value)


class NameSum(unittest.TestCase):
    def test_is_the_flag_sum(self):
        for pattern in PATTERNS:
            self.assertEqual(name_sum(name_of(pattern)), flag_sum(pattern))

    def test_against_fractions(self):
        for name in (
            (0, (), (), 0), (1, (), (), 0), (60, (), (), 0), (0, (), (), 180), (0, (), ((),), 0),
            (0, (2, 3, 7), (), 0), (0, (), ((2, 3, 7),), 0), (0, (9998, 9999), ((9997,), ()), 3),
            (5, (6, 6, 6), ((4, 4), (2, 3)), 0),
        ):
            expected = plain_surfaces.plain_sum(name)
            self.assertEqual(name_sum(name), (expected.numerator, expected.denominator))
            self.assertIs(type(name_sum(name)[0]), int)
