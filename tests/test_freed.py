import unittest

import plain_covers
import plain_surfaces
import samples
from flagfloors.covers import check_cover, covers, normal_cover
from flagfloors.errors import TooMany
from flagfloors.freed import is_free, oriented
from flagfloors.orders import reordered
from flagfloors.surfaces import is_oriented

PATTERNS = plain_surfaces.many_patterns()

# Only the edges have a turn above 1: changes 0 and 2 exchange the same two flags.
TURNED_EDGE = ((1, 0), (1, 0), (1, 0), (1, 1), (1, 1))


def is_plain_free(pattern):
    flags = range(len(pattern[0]))
    if any(s[f] == f for s in pattern[:3] for f in flags):
        return False
    return all(
        plain_surfaces.plain_turn(pattern, f, k) == 1 for f in flags for k in range(3)
    )


def plain_oriented(pattern):
    """The cover by flags with colours, straight from [36]."""
    size = len(pattern[0])
    if plain_surfaces.plain_colours(pattern[:3]) is not None and all(
        s[f] != f for s in pattern[:3] for f in range(size)
    ):
        return plain_covers.plain_normal((pattern, tuple(range(size))))
    # Flag f of colour c has the number 2f + c.
    changes = tuple(
        tuple(2 * s[f] + 1 - c for f in range(size) for c in (0, 1)) for s in pattern[:3]
    )
    orders = tuple(tuple(row[f] for f in range(size) for _ in (0, 1)) for row in pattern[3:])
    lead = tuple(f for f in range(size) for _ in (0, 1))
    return plain_covers.plain_normal((changes + orders, lead))


class IsFree(unittest.TestCase):
    def test_against_all_classes(self):
        kinds = set()
        for pattern in PATTERNS:
            found = is_free(pattern)
            self.assertIs(found, is_plain_free(pattern), pattern)
            kinds.add(found)
        self.assertEqual(kinds, {True, False})

    def test_closed_surfaces(self):
        for tiles in (samples.CUBE_TILES, samples.TETRAHEDRON_TILES, ((1, 2, -1, -2),),
                      ((1, 2, -1, 2),), ((1, 1),), ((1, -1),), ((1, 2, -1, -2, 3, 4, -3, -4),)):
            pattern = samples.plain_glued(tiles)
            self.assertIs(is_free(pattern), True)
            for word, flag in (("tile", 0), ("corner", 3)):
                order = pattern[3 if word == "tile" else 4][flag]
                self.assertIs(is_free(reordered(pattern, word, flag, 2 * order)), False)
                self.assertIs(is_free(reordered(pattern, word, flag, 3 * order)), False)

    def test_mirrors(self):
        for tiles in (((1,),), ((1, 2, -1, 3),), ((1, 2, 3), (1, 2, 4))):
            self.assertIs(is_free(samples.plain_glued(tiles)), False)
        self.assertIs(is_free(samples.CUBE), False)
        self.assertIs(is_free(samples.ring(5)), False)
        # One change alone may have the mirrors.
        self.assertIs(is_free(((1, 0), (1, 0), (0, 1), (1, 1), (2, 2))), False)
        self.assertIs(is_free(((0, 1), (1, 0), (1, 0), (2, 2), (1, 1))), False)
        self.assertIs(is_free(((1, 0), (0, 1), (1, 0), (2, 2), (2, 2))), False)

    def test_a_turn_of_the_edges(self):
        self.assertIs(is_free(TURNED_EDGE), False)


class Oriented(unittest.TestCase):
    def test_as_the_point_makes_it(self):
        sheets = set()
        for pattern in PATTERNS:
            if len(pattern[0]) > 30:
                continue
            found = oriented(pattern)
            self.assertEqual(found, plain_oriented(pattern), pattern)
            self.assertIs(check_cover(pattern, found), found)
            self.assertEqual(normal_cover(found), found)
            self.assertTrue(is_oriented(found[0]))
            self.assertEqual(found[1].count(0), 1 if is_oriented(pattern) else 2)
            sheets.add(found[1].count(0))
        self.assertEqual(sheets, {1, 2})

    def test_of_an_oriented_pattern(self):
        for pattern in (samples.TORUS, samples.plain_glued(samples.CUBE_TILES), TURNED_EDGE):
            size = len(pattern[0])
            self.assertEqual(oriented(pattern), covers(pattern, 1)[0])
            other = plain_covers.numbered((pattern, tuple(range(size))), tuple(range(size))[::-1])[0]
            self.assertEqual(oriented(other), covers(other, 1)[0])

    def test_of_the_oriented_cover(self):
        for pattern in PATTERNS[::29]:
            above = oriented(pattern)[0]
            self.assertEqual(oriented(above), covers(above, 1)[0])

    def test_mirrors_but_two_sided_and_one_sided_without_mirrors(self):
        disc = samples.ring(3)
        self.assertIsNotNone(plain_surfaces.plain_colours(disc[:3]))
        self.assertEqual(oriented(disc)[1].count(0), 2)
        klein = samples.plain_glued(((1, 2, -1, 2),))
        self.assertFalse(any(s[f] == f for s in klein[:3] for f in range(8)))
        self.assertEqual(oriented(klein)[1].count(0), 2)

    def test_limits(self):
        self.assertEqual(len(oriented(samples.ring(60))[1]), 240)
        self.assertEqual(len(oriented(samples.path(120))[1]), 240)
        for pattern in (samples.path(121), samples.path(240), samples.ring(61)):
            for _ in range(2):
                with self.assertRaises(TooMany) as caught:
                    oriented(pattern)
                self.assertEqual(caught.exception.limit, 240)
        whole = samples.plain_glued((tuple(k * s for k in range(1, 61) for s in (1, -1)),))
        self.assertEqual(len(whole[0]), 240)
        self.assertEqual(oriented(whole), covers(whole, 1)[0])
