import unittest
from fractions import Fraction

import plain_surfaces
import plane_samples
import samples
from flagfloors.applying import applied
from flagfloors.areas import is_straight, tile_areas
from flagfloors.classes import classes
from flagfloors.layings import laid
from flagfloors.recipewords import recipe_of_words


def plain_areas(made):
    """The areas, straight from [45]."""
    above = made[0]
    tints = plain_surfaces.plain_colours(above[:3])
    parts = plane_samples.plain_spans(made)
    areas = []
    for tile in classes(above, 0, 1):
        least = min(f for f in tile if tints[f] == 0)
        x, y = Fraction(0), Fraction(0)
        total = Fraction(0)
        for f in plane_samples.plain_round(above, least, 0):
            ahead_x, ahead_y = x + parts[f][0], y + parts[f][1]
            total += x * ahead_y - ahead_x * y
            x, y = ahead_x, ahead_y
        assert (x, y) == (0, 0)
        areas.append(total / 2)
    return areas


def side_of_line(a, b):
    area = a[0] * b[1] - a[1] * b[0]
    return (area > 0) - (area < 0)


def quarter(pair):
    """In which quarter of a turn a pair lies, counted from the right."""
    x, y = pair
    return 0 if x > 0 and y >= 0 else 1 if x <= 0 and y > 0 else 2 if x < 0 else 3


def quarters_on(a, b):
    """How many quarters further a pair lies than another one, less than half a turn ahead."""
    on = (quarter(b) - quarter(a)) % 4
    return on if on < 3 else -1


def is_plain_straight(made):
    """Whether all corners are gone round once, each angle measured against the quarters."""
    above = made[0]
    tints = plain_surfaces.plain_colours(above[:3])
    parts = plane_samples.plain_spans(made)
    total = sum(plain_areas(made))
    for corner in classes(above, 1, 2):
        first = [f for f in corner if tints[f] == 0][0]
        row = [parts[f] for f in plane_samples.plain_round(above, first, 2)]
        ahead = row[1:] + row[:1]
        if len(row) < 3 or any(side_of_line(a, b) != -total for a, b in zip(row, ahead)):
            return False
        if total > 0:
            row, ahead = ahead, row
        if sum(quarters_on(a, b) for a, b in zip(row, ahead)) != 4:
            return False
    return True


class TileAreas(unittest.TestCase):
    def test_as_the_point_says(self):
        signs = set()
        for _, made in plane_samples.layings():
            found = tile_areas(made)
            self.assertEqual([Fraction(*area) for area in found], plain_areas(made))
            for area in found:
                value = Fraction(*area)
                self.assertEqual((value.numerator, value.denominator), area)
                self.assertEqual([type(x) for x in area], [int, int])
            total = sum(Fraction(*area) for area in found)
            self.assertIn(total, (1, -1))
            signs.add(total)
        self.assertEqual(signs, {1, -1})

    def test_squares_and_others(self):
        for pattern, sizes in (
            (plane_samples.SQUARES, [Fraction(1)]),
            (plane_samples.TRIANGLES, [Fraction(1, 2)] * 2),
            (plane_samples.HEXAGONS, [Fraction(1)]),
        ):
            found = [abs(Fraction(*area)) for area in tile_areas(laid(pattern))]
            self.assertEqual(found, sizes)
        # Triangles and hexagons of one length of edge: a hexagon is as great as six triangles.
        kagome = applied(recipe_of_words("middle"), plane_samples.TRIANGLES)
        found = sorted(abs(Fraction(*area)) for area in tile_areas(laid(kagome)))
        self.assertEqual(found, [Fraction(1, 8), Fraction(1, 8), Fraction(3, 4)])

    def test_tiles_of_one_edge_and_of_two(self):
        for tiles in (((1, 2, -1, -2, 3), (-3,)), ((1, 2, -3, -2), (3, -1))):
            found = tile_areas(laid(samples.plain_glued(tiles)))
            self.assertEqual(sorted(abs(Fraction(*area)) for area in found), [0, 1])


class IsStraight(unittest.TestCase):
    def test_as_the_point_says(self):
        kinds = {True: 0, False: 0}
        for _, made in plane_samples.layings():
            found = is_straight(made)
            self.assertIs(found, is_plain_straight(made))
            kinds[found] += 1
        self.assertGreater(min(kinds.values()), 20)

    def test_squares_triangles_hexagons(self):
        for pattern in (plane_samples.SQUARES, plane_samples.TRIANGLES, plane_samples.HEXAGONS):
            for word in ("same", "dual", "middle", "raise", "cut", "expand", "bevel", "part"):
                changed = applied(recipe_of_words(word), pattern)
                self.assertIs(is_straight(laid(changed)), True)

    def test_a_corner_of_one_edge_or_of_two(self):
        hanging = samples.plain_glued(((1, 2, -1, -2, 3, -3),))
        self.assertEqual(set(hanging[4]), {1, 5})
        self.assertIs(is_straight(laid(hanging)), False)
        # Each edge of the squares cut in two: all lies straight, but a corner has two edges.
        cut = samples.plain_glued(((1, 2, 3, 4, -2, -1, -4, -3),))
        self.assertEqual(set(cut[4]), {2, 4})
        self.assertIs(is_straight(laid(cut)), False)

    def test_tiles_of_one_edge_and_of_two(self):
        for tiles in (((1, 2, -1, -2, 3), (-3,)), ((1, 2, -3, -2), (3, -1))):
            self.assertIs(is_straight(laid(samples.plain_glued(tiles))), False)
