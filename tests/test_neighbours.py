import unittest

import plane_samples
import samples
import test_bodies
import test_ringcovers
from flagfloors.applying import applied
from flagfloors.errors import NotPlane, TooMany
from flagfloors.layings import laid
from flagfloors.names import name_of
from flagfloors.neighbours import corner_rings, tile_rings
from flagfloors.numberings import renumbered
from flagfloors.recipewords import recipe_of_words
from flagfloors.sides import side_of

DUAL = ((-3,), (-2,), (-1,))

# Well-known patterns by the words that make them of squares or triangles, and the rings of
# their corners: the numbers that crystallographers give for these nets.
NETS = (
    (plane_samples.SQUARES, "same", (1, 4, 8, 12, 16, 20, 24)),
    (plane_samples.SQUARES, "cut", (1, 3, 5, 8, 11, 13, 16, 19, 21, 24, 27, 29, 32)),
    (plane_samples.TRIANGLES, "same", (1, 6, 12, 18, 24, 30, 36)),
    (plane_samples.HEXAGONS, "same", (1, 3, 6, 9, 12, 15, 18)),
    (plane_samples.TRIANGLES, "middle", (1, 4, 8, 14, 18, 22, 28, 30, 38, 38)),
    (plane_samples.TRIANGLES, "expand", (1, 4, 8, 12, 16, 20, 24)),
    (plane_samples.TRIANGLES, "bevel", (1, 3, 5, 7, 9, 12, 15, 17, 19, 21, 24, 27, 29)),
    (plane_samples.HEXAGONS, "cut", (1, 3, 4, 6, 8, 12, 14, 15, 18, 21, 22, 24, 28)),
)


def rings_of_graph(links, start, most):
    """How many nodes of a graph are 0, 1, .. steps away; links(node) gives the neighbours."""
    ring, seen, counts = {start}, {start}, [1]
    for _ in range(most):
        ring = {other for node in ring for other in links(node)} - seen
        seen |= ring
        counts.append(len(ring))
    return tuple(counts)


def rings_by_spots(pattern, flag, most):
    """The rings of corners, told by where the corners are laid, seen through another laying."""
    made = plane_samples.other_laying(laid(pattern), ((2, 1), (1, 1)), 4)
    above, lead = made[:2]
    corner = plane_samples.corners_of(above)
    parts = plane_samples.plain_spans(made)
    ways = {c: {(corner[above[0][f]], parts[f]) for f in range(len(lead)) if corner[f] == c}
            for c in corner}

    def links(node):
        c, x, y = node
        return [(d, x + part[0], y + part[1]) for d, part in ways[c]]

    start = plane_samples.as_fractions(made[3][lead.index(flag)])
    return rings_of_graph(links, (corner[lead.index(flag)],) + start, most)


class CornerRings(unittest.TestCase):
    def test_well_known_nets(self):
        for pattern, text, rings in NETS:
            changed = applied(recipe_of_words(text), pattern)
            self.assertEqual(corner_rings(changed, 0, len(rings) - 1), rings, text)

    def test_by_spots(self):
        unlike = 0
        for pattern in plane_samples.plane_patterns()[::3]:
            found = {}
            for flag in range(0, len(pattern[0]), max(1, len(pattern[0]) // 4)):
                found[flag] = corner_rings(pattern, flag, 4)
                self.assertEqual(found[flag], rings_by_spots(pattern, flag, 4))
            unlike += len(set(found.values())) > 1
        self.assertGreater(unlike, 5)

    def test_bodies(self):
        for (p, q), rings in (
            ((3, 3), (1, 3, 0, 0)), ((4, 3), (1, 3, 3, 1, 0)), ((3, 4), (1, 4, 1, 0)),
            ((5, 3), (1, 3, 6, 6, 3, 1, 0)), ((3, 5), (1, 5, 5, 1, 0)),
        ):
            for pattern in (test_bodies.one(p, q), test_bodies.turned(p, q)):
                self.assertEqual(corner_rings(pattern, 0, len(rings) - 1), rings)
                self.assertEqual(corner_rings(pattern, 0, 12), rings + (0,) * (13 - len(rings)))

    def test_coins_and_slices(self):
        for n in (2, 3, 4, 7, 60):
            rings = (1,) + tuple(2 for _ in range((n - 1) // 2)) + ((1,) if n % 2 == 0 else ())
            rings = (rings + (0,) * 13)[:13]
            self.assertEqual(corner_rings(test_bodies.one(n, 2), 0, 12), rings)
            self.assertEqual(corner_rings(test_bodies.one(2, n), 0, 12), (1, 1) + (0,) * 11)


class TileRings(unittest.TestCase):
    def test_squares_triangles_hexagons(self):
        self.assertEqual(tile_rings(plane_samples.SQUARES, 0, 3), (1, 4, 8, 12))
        for most in range(13):
            row = range(1, most + 1)
            self.assertEqual(tile_rings(plane_samples.SQUARES, 0, most),
                             (1,) + tuple(4 * k for k in row))
            self.assertEqual(tile_rings(plane_samples.TRIANGLES, 0, most),
                             (1,) + tuple(3 * k for k in row))
            self.assertEqual(tile_rings(plane_samples.HEXAGONS, 0, most),
                             (1,) + tuple(6 * k for k in row))

    def test_bodies(self):
        for (p, q), rings in (
            ((3, 3), (1, 3, 0, 0)), ((4, 3), (1, 4, 1, 0)), ((3, 4), (1, 3, 3, 1, 0)),
            ((5, 3), (1, 5, 5, 1, 0)), ((3, 5), (1, 3, 6, 6, 3, 1, 0)),
        ):
            self.assertEqual(tile_rings(test_bodies.one(p, q), 0, len(rings) - 1), rings)
            self.assertEqual(tile_rings(test_bodies.turned(p, q), 1, 12),
                             rings + (0,) * (13 - len(rings)))
        cube = samples.plain_glued(samples.CUBE_TILES)
        for flag in range(48):
            self.assertEqual(tile_rings(cube, flag, 4), (1, 4, 1, 0, 0))

    def test_coins_and_slices(self):
        for n in (2, 3, 4, 7, 60):
            self.assertEqual(tile_rings(test_bodies.one(n, 2), 0, 12), (1, 1) + (0,) * 11)
            rings = (1,) + tuple(2 for _ in range((n - 1) // 2)) + ((1,) if n % 2 == 0 else ())
            self.assertEqual(tile_rings(test_bodies.one(2, n), 0, 12), (rings + (0,) * 13)[:13])

    def test_squares_with_tiles_of_two_edges_between_them(self):
        # Squares (x, y, 0), and over each one a tile of two edges (x, y, 1).
        def links(tile):
            x, y, kind = tile
            if kind == 1:
                return [(x, y, 0), (x, y + 1, 0)]
            return [(x - 1, y, 0), (x + 1, y, 0), (x, y, 1), (x, y - 1, 1)]

        pattern = samples.plain_glued(((1, 2, -3, -2), (3, -1)))
        self.assertEqual(pattern[3], (4,) * 8 + (2,) * 4)
        for flag in range(12):
            start = (0, 0, 0 if flag < 8 else 1)
            self.assertEqual(tile_rings(pattern, flag, 12), rings_of_graph(links, start, 12))

    def test_tiles_of_one_edge(self):
        # A square has a tile of one edge inside, whose corner is its own.
        def links(tile):
            x, y, kind = tile
            if kind == 1:
                return [(x, y, 0)]
            return [(x - 1, y, 0), (x + 1, y, 0), (x, y + 1, 0), (x, y - 1, 0), (x, y, 1)]

        pattern = samples.plain_glued(((1, 2, -1, -2, 3), (-3,)))
        for flag in range(12):
            start = (0, 0, 0 if flag < 10 else 1)
            self.assertEqual(tile_rings(pattern, flag, 12), rings_of_graph(links, start, 12))

    def test_an_edge_with_one_tile_on_both_sides(self):
        # No tile is a neighbour of itself.
        pattern = samples.plain_glued(((1, 2, -1, -2, 3, -3),))
        self.assertEqual(tile_rings(pattern, 0, 4), (1, 4, 8, 12, 16))
        self.assertEqual(tile_rings(samples.plain_glued(((1, -1),)), 0, 2), (1, 0, 0))


class Both(unittest.TestCase):
    def test_every_flag_of_a_tile_or_a_corner(self):
        for pattern in plane_samples.plane_patterns()[::6]:
            for rings, i in ((tile_rings, 0), (corner_rings, 1)):
                for flag in range(len(pattern[0])):
                    least = samples.plain_class(pattern[i], pattern[i + 1], flag)[0]
                    if least != flag and flag % 3 == 0:
                        self.assertEqual(rings(pattern, flag, 3), rings(pattern, least, 3))

    def test_tiles_and_corners_change_places(self):
        balls = [pattern for pattern, _ in test_bodies.balls()]
        for pattern in plane_samples.plane_patterns()[::4] + tuple(balls[::9]):
            dual = applied(DUAL, pattern)
            for flag in range(0, len(pattern[0]), 5):
                for most in (0, 1, 5):
                    self.assertEqual(tile_rings(pattern, flag, most), corner_rings(dual, flag, most))
                    self.assertEqual(corner_rings(pattern, flag, most), tile_rings(dual, flag, most))

    def test_numbered_anew(self):
        for pattern in plane_samples.plane_patterns()[::9]:
            size = len(pattern[0])
            listing = tuple(range(1, size)) + (0,)
            other = renumbered(pattern, listing)
            for k in range(0, size, 4):
                self.assertEqual(tile_rings(other, k, 4), tile_rings(pattern, listing[k], 4))

    def test_most(self):
        for pattern in plane_samples.plane_patterns()[::8] + (samples.CUBE,):
            for rings in (tile_rings, corner_rings):
                whole = rings(pattern, 0, 12)
                self.assertEqual([type(whole), len(whole), whole[0]], [tuple, 13, 1])
                for most in (0, 1, 2, 7):
                    self.assertEqual(rings(pattern, 0, most), whole[:most + 1])
                self.assertEqual(rings(pattern, 0, 0), (1,))

    def test_the_whole_ball(self):
        for pattern, _ in test_bodies.balls()[::3]:
            tiles, _, corners = test_bodies.ball_parts(pattern)
            for rings, number in ((tile_rings, tiles), (corner_rings, corners)):
                self.assertEqual(sum(rings(pattern, 0, 130)), number)

    def test_neither_plane_nor_ball(self):
        patterns = [p for p in test_bodies.not_balls() if name_of(p) not in plane_samples.POINTS]
        self.assertEqual({side_of(name_of(p)) for p in patterns}, {"saddle", "bad"})
        self.assertIn(240, {len(p[0]) for p in patterns})
        for pattern in patterns:
            for rings in (tile_rings, corner_rings):
                for _ in range(2):
                    with self.assertRaises(NotPlane):
                        rings(pattern, 0, 3)

    def test_limits(self):
        for pattern in (test_bodies.one(60, 2), test_bodies.one(2, 60), samples.ring(60),
                        test_ringcovers.dangling((1, 2, -1, 2), 28)):
            self.assertEqual(len(tile_rings(pattern, 0, 12)), 13)
            self.assertEqual(len(corner_rings(pattern, 0, 12)), 13)
        for pattern in (test_bodies.one(61, 2), test_bodies.one(2, 61), samples.ring(61),
                        test_bodies.one(2, 9999), test_ringcovers.dangling((1, 2, -1, 2), 29),
                        applied(recipe_of_words("part expand"), plane_samples.TRIANGLES)):
            for rings in (tile_rings, corner_rings):
                for most in (0, 12):
                    with self.assertRaises(TooMany) as caught:
                        rings(pattern, 0, most)
                    self.assertEqual(caught.exception.limit, 240)
