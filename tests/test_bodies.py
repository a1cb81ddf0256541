import unittest
from collections import Counter
from functools import lru_cache

import plain_covers
import plain_surfaces
import samples
import test_freed
import test_sides
from flagfloors.applying import applied
from flagfloors.bodies import ball_parts, body, census
from flagfloors.covers import check_cover, normal_cover
from flagfloors.decks import is_regular
from flagfloors.errors import NotBall, TooMany
from flagfloors.namefloors import pattern_of
from flagfloors.names import name_of
from flagfloors.numberings import renumbered
from flagfloors.orders import reordered
from flagfloors.recipewords import recipe_of_words

# The five bodies by all their symmetries: tiles of p edges, q at each corner.
BODIES = {
    (3, 3): (4, 6, 4), (4, 3): (6, 12, 8), (3, 4): (8, 12, 6), (5, 3): (12, 30, 20),
    (3, 5): (20, 30, 12),
}


def one(p, q):
    return ((0,), (0,), (0,), (p,), (q,))


def turned(p, q):
    """A body by its turns alone."""
    return ((1, 0), (1, 0), (1, 0), (p, p), (q, q))


@lru_cache(maxsize=None)
def balls():
    """Pairs of a pattern with the number of sheets of its body, at most 240 flags above."""
    found = []
    for p, q in BODIES:
        count = 8 * p * q // (2 * p + 2 * q - p * q)
        found += [(one(p, q), count), (turned(p, q), count // 2)]
    for n in (1, 2, 3, 8, 60):
        found += [(one(n, 2), 4 * n), (one(2, n), 4 * n), (turned(n, 2), 2 * n)]
    for name, count in test_sides.ball_names().items():
        if all(order < 9999 for row in (name[1],) + name[2] for order in row):
            pattern = pattern_of(name)
            size = len(pattern[0])
            if count * size <= 240:
                step = [step for step in (7, 11, 13) if size % step][0]
                listing = plain_surfaces.mixed(size, step)
                found += [(pattern, count), (renumbered(pattern, listing), count)]
            for word in ("dual", "middle", "raise", "thicken"):
                recipe = recipe_of_words(word)
                if count * size * len(recipe[0]) <= 240:
                    found.append((applied(recipe, pattern), count))
    for tiles in (((1, 1),), ((1, -1),), ((1, 2, -2, 1),), ((1,), (-1,)), samples.CUBE_TILES):
        pattern = samples.plain_glued(tiles)
        found.append((pattern, 2 if tiles in (((1, 1),), ((1, 2, -2, 1),)) else 1))
    for recipe, (p, q) in (("middle", (4, 3)), ("raise", (5, 3)), ("cut", (3, 3)), ("bevel", (3, 3))):
        sheets = 8 * p * q // (2 * p + 2 * q - p * q)
        pattern = applied(recipe_of_words(recipe), one(p, q))
        if sheets * len(pattern[0]) <= 240:
            found.append((pattern, sheets))
    return tuple(found)


def not_balls():
    """Patterns of the plane, of the saddle and with bad names, small ones and some of 240 flags."""
    found = [one(4, 4), one(3, 6), one(4, 5), one(9999, 9999), samples.TORUS, turned(3, 7)]
    found += [samples.plain_glued(((1, 2, -1, -2, 3, 4, -3, -4),)), samples.plain_glued(((1, 2, -1, 2),))]
    found += [test_freed.TURNED_EDGE, one(2, 1), one(1, 2), ((1, 0), (1, 0), (1, 0), (2, 2), (1, 1))]
    found = [p for p in found if name_of(p) not in test_sides.ball_names()]
    whole = samples.plain_glued((tuple(k * s for k in range(1, 61) for s in (1, -1)),))
    found.append(reordered(whole, "tile", 0, 240))
    found.append(reordered(whole, "tile", 0, 120 * 83))
    found.append(reordered(reordered(whole, "tile", 0, 240), "corner", 1, 3))
    found.append(samples.plain_glued(
        ((1, 2, -1, -2) + tuple(k * s for k in range(3, 61) for s in (1, -1)),)
    ))
    return found


class Body(unittest.TestCase):
    def test_all_that_the_point_says(self):
        names = set()
        for pattern, sheets in balls():
            found = body(pattern)
            above, lead = found
            self.assertIs(check_cover(pattern, found), found)
            self.assertTrue(test_freed.is_plain_free(above))
            self.assertEqual(plain_surfaces.plain_name(above), (0, (), (), 0))
            self.assertEqual(len(lead), sheets * len(pattern[0]))
            self.assertTrue(is_regular(found))
            names.add(name_of(pattern))
        families = [(0, (), (), 0), (0, (), ((),), 0), (0, (), (), 1), (0, (3,), ((2,),), 0)]
        for n in (2, 3, 5):
            families += [(0, (n, n), (), 0), (0, (2, 2, n), (), 0), (0, (), ((n, n),), 0),
                         (0, (), ((2, 2, n),), 0), (0, (n,), ((),), 0), (0, (n,), (), 1),
                         (0, (2,), ((n,),), 0)]
        for n in (3, 4, 5):
            families += [(0, (2, 3, n), (), 0), (0, (), ((2, 3, n),), 0)]
        self.assertLessEqual(set(families), names)

    def test_normal_form(self):
        for pattern, _ in balls():
            found = body(pattern)
            self.assertEqual(normal_cover(found), found)
            if len(found[1]) <= 60:
                self.assertEqual(plain_covers.plain_normal(found), found)

    def test_the_cube(self):
        cube = samples.plain_glued(samples.CUBE_TILES)
        self.assertEqual(body(samples.CUBE), plain_covers.plain_normal((cube, (0,) * 48)))

    def test_just_240_flags(self):
        whole = samples.plain_glued((tuple(k * s for k in range(1, 61) for s in (1, -1)),))
        for pattern in (one(60, 2), one(2, 60), samples.ring(60), turned(60, 2), whole,
                        applied(recipe_of_words("middle"), one(5, 3)),
                        pattern_of((0, (), ((2, 3, 3),), 0))):
            found = body(pattern)
            self.assertEqual(len(found[1]), 240)
            self.assertIs(check_cover(pattern, found), found)
            self.assertEqual(name_of(found[0]), (0, (), (), 0))

    def test_above_240_flags(self):
        for pattern in (one(61, 2), one(2, 61), samples.ring(61), turned(61, 2), one(9999, 2),
                        applied(recipe_of_words("raise"), one(5, 3)), samples.path(240),
                        pattern_of((0, (9999, 9999), (), 0)), samples.ring(120)):
            for _ in range(2):
                with self.assertRaises(TooMany) as caught:
                    body(pattern)
                self.assertEqual(caught.exception.limit, 240)

    def test_no_ball(self):
        for pattern in not_balls():
            for _ in range(2):
                with self.assertRaises(NotBall):
                    body(pattern)


class BallParts(unittest.TestCase):
    def test_five_bodies(self):
        for (p, q), parts in BODIES.items():
            self.assertEqual(ball_parts(one(p, q)), parts)
            self.assertEqual(ball_parts(turned(p, q)), parts)

    def test_coins_and_slices(self):
        for n in (1, 2, 3, 60, 61, 9999):
            self.assertEqual(ball_parts(one(n, 2)), (2, n, n))
            self.assertEqual(ball_parts(one(2, n)), (n, n, 2))
            self.assertEqual(ball_parts(turned(n, 2)), (2, n, n))
            self.assertEqual(ball_parts(turned(2, n)), (n, n, 2))

    def test_parts_of_the_body(self):
        for pattern, _ in balls():
            above, _ = body(pattern)
            parts = tuple(
                len({samples.plain_class(above[i], above[j], f) for f in range(len(above[0]))})
                for i, j in ((0, 1), (0, 2), (1, 2))
            )
            found = ball_parts(pattern)
            self.assertEqual(found, parts)
            self.assertEqual([type(number) for number in found], [int, int, int])

    def test_far_greater_balls(self):
        for name, count in test_sides.ball_names().items():
            if 9999 in [order for row in (name[1],) + name[2] for order in row] and name[2]:
                continue
            pattern = pattern_of(name)
            tiles, edges, corners = ball_parts(pattern)
            self.assertEqual(tiles, count)
            self.assertEqual(4 * edges, count * len(pattern[0]))
            self.assertEqual(tiles - edges + corners, 2)

    def test_known_greater_balls(self):
        for text, parts in (("part", (120, 180, 62)), ("bevel", (62, 180, 120)),
                            ("part middle", (182, 360, 180)), ("part expand", (362, 720, 360))):
            self.assertEqual(ball_parts(applied(recipe_of_words(text), one(5, 3))), parts)

    def test_no_ball(self):
        for pattern in not_balls():
            with self.assertRaises(NotBall):
                ball_parts(pattern)


class Census(unittest.TestCase):
    def test_known_bodies(self):
        for (p, q), (tiles, _, corners) in BODIES.items():
            self.assertEqual(census(one(p, q), "tile"), ((p, tiles),))
            self.assertEqual(census(one(p, q), "corner"), ((q, corners),))
        ball = applied(recipe_of_words("cut"), one(3, 5))
        self.assertEqual(census(ball, "tile"), ((5, 12), (6, 20)))
        self.assertEqual(census(ball, "corner"), ((3, 60),))
        self.assertEqual(census(applied(recipe_of_words("part"), one(5, 3)), "corner"),
                         ((4, 30), (6, 20), (10, 12)))
        self.assertEqual(census(applied(recipe_of_words("bevel"), one(5, 3)), "tile"),
                         ((4, 30), (6, 20), (10, 12)))

    def test_classes_of_the_body(self):
        sizes = set()
        for pattern, _ in balls():
            above, _ = body(pattern)
            flags = range(len(above[0]))
            for word, i in (("tile", 0), ("corner", 1)):
                members = {samples.plain_class(above[i], above[i + 1], f) for f in flags}
                expected = Counter(above[3 + i][row[0]] for row in members)
                found = census(pattern, word)
                self.assertEqual(found, tuple(sorted(expected.items())))
                sizes.add(len(found))
        self.assertGreaterEqual(max(sizes), 3)

    def test_adding_up(self):
        greater = [pattern for pattern, _ in balls()] + [
            one(9999, 2), one(2, 9999), turned(9999, 2), pattern_of((0, (2, 2, 9999), (), 0)),
            applied(recipe_of_words("part expand"), one(5, 3)), samples.ring(120),
        ]
        for pattern in greater:
            tiles, _, corners = ball_parts(pattern)
            for word, number in (("tile", tiles), ("corner", corners)):
                found = census(pattern, word)
                self.assertEqual(sum(many for _, many in found), number)
                self.assertEqual(sorted(found), list(found))
                self.assertEqual(len({order for order, _ in found}), len(found))

    def test_no_ball(self):
        for pattern in not_balls():
            for word in ("tile", "corner"):
                with self.assertRaises(NotBall):
                    census(pattern, word)
