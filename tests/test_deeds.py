import unittest

import samples
import test_bodies
from flagfloors.applying import applied
from flagfloors.bodies import body
from flagfloors.covers import covers
from flagfloors.deeds import all_done, done
from flagfloors.errors import (
    NotBall, NotDeed, NotFolding, NotOrder, NotText, TooMany,
)
from flagfloors.foldings import coarsest, folded, foldings
from flagfloors.freed import oriented
from flagfloors.numberings import least
from flagfloors.orders import reordered
from flagfloors.recipewords import recipe_of_words

ONE = ((0,), (0,), (0,), (12,), (12,))
PATTERNS = (samples.CUBE, ONE, samples.SWAP_0, samples.MIRRORED_SQUARE, samples.TORUS,
            samples.plain_glued(((1, 2, -1, 2, 3, -3),)), test_bodies.turned(4, 3))

# Values that are no deeds for a pattern of two flags.
NO_DEEDS = (
    (), ("",), ("Least",), ("least ",), ("recipes", "dual"), ("folded", (0, 0)), ("corners", 0, 3),
    (0,), (None,), (True,), (("least",),), ([],), ({},), (b"least",), (0, "recipe"), ("body", "body"),
    ("recipe",), ("recipe", "dual", "dual"), ("recipe", "dual", None), ("recipe", 0), ("recipe", None),
    ("recipe", b"dual"), ("recipe", ["dual"]), ("recipe", ("dual",)), ("recipe", True),
    ("tile",), ("tile", 0), ("tile", 0, 4, 4), ("tile", "0", 4), ("tile", 0, "4"), ("tile", None, 4),
    ("tile", 0, None), ("tile", True, 4), ("tile", False, 4), ("tile", 0, True), ("tile", 0, False),
    ("tile", 0.0, 4), ("tile", 0, 4.0), ("tile", (0,), 4), ("tile", 0, (4,)), ("tile", [0], 4),
    ("tile", -1, 4), ("tile", 2, 4), ("tile", 240, 4), ("tile", 10 ** 30, 4), ("tile", -1, 0),
    ("corner",), ("corner", 0), ("corner", 0, 3, 3), ("corner", "0", 3), ("corner", 0, "3"),
    ("corner", True, 3), ("corner", 0, True), ("corner", -1, 3), ("corner", 2, 3), ("corner", 2, "3"),
    ("corner", None, 3), ("corner", 0, None), ("corner", [0], 3), ("corner", 0, [3]), ("corner", 2, 0),
    ("image",), ("image", (0, 0), (0, 0)), ("image", 0, 0),
    ("coarsest", 0), ("coarsest", ()), ("least", 0), ("least", None), ("oriented", 0),
    ("oriented", True), ("body", 0), ("body", ()),
    ("cover",), ("cover", 1), ("cover", 1, 0, 0), ("cover", "1", 0), ("cover", 1, "0"),
    ("cover", True, 0), ("cover", 1, False), ("cover", 0, 0), ("cover", -1, 0), ("cover", 1, -1),
    ("cover", 2, -1), ("cover", 0, -1), ("cover", None, 0), ("cover", 1, None), ("cover", [1], 0),
    ("cover", 1, [0]), ("cover", 1.0, 0), ("cover", -10 ** 30, 0), ("cover", 1000, -1),
    ["least"], ["recipe", "dual"], ["tile", 0, 4], [], {}, {"least": ()}, set(), None, 0, 1, True,
    "least", "body", b"least", 1.5, object(),
)


class Done(unittest.TestCase):
    def test_recipes(self):
        for pattern in PATTERNS:
            for text in ("", "dual", "middle", "raise dual", "same", "cut"):
                self.assertEqual(done(pattern, ("recipe", text)), applied(recipe_of_words(text), pattern))

    def test_orders(self):
        unlike = 0
        for pattern in PATTERNS:
            for word in ("tile", "corner"):
                for flag in range(len(pattern[0])):
                    for order in (60, 120, 4 * 3 * 5 * 7):
                        found = done(pattern, (word, flag, order))
                        self.assertEqual(found, reordered(pattern, word, flag, order))
                        self.assertEqual(found[3 if word == "tile" else 4][flag], order)
                        unlike += found != reordered(pattern, word, 0, order)
        self.assertGreater(unlike, 0)

    def test_images(self):
        for pattern in PATTERNS:
            for folding in foldings(pattern):
                self.assertEqual(done(pattern, ("image", folding)), folded(pattern, folding))
            self.assertEqual(done(pattern, ("coarsest",)), folded(pattern, coarsest(pattern)))

    def test_least_oriented_body(self):
        bodies = 0
        for pattern in PATTERNS:
            self.assertEqual(done(pattern, ("least",)), least(pattern))
            self.assertEqual(done(pattern, ("oriented",)), oriented(pattern)[0])
            if pattern in (samples.CUBE, test_bodies.turned(4, 3), samples.SWAP_0):
                self.assertEqual(done(pattern, ("body",)), body(pattern)[0])
                bodies += 1
        self.assertEqual(bodies, 3)

    def test_covers(self):
        places = set()
        for pattern in PATTERNS:
            for sheets in (1, 2, 3):
                if len(pattern[0]) * sheets * sheets > 72:
                    continue
                rows = covers(pattern, sheets)
                for number, (above, _) in enumerate(rows):
                    self.assertEqual(done(pattern, ("cover", sheets, number)), above)
                    places.add(number)
                for number in (len(rows), len(rows) + 1, 10 ** 30):
                    with self.assertRaises(NotDeed):
                        done(pattern, ("cover", sheets, number))
        self.assertLessEqual({0, 1, 2, 3}, places)

    def test_no_deeds(self):
        for value in NO_DEEDS:
            for _ in range(2):
                with self.assertRaises(NotDeed, msg=repr(value)):
                    done(samples.SWAP_0, value)

    def test_flags_of_the_pattern(self):
        for pattern in PATTERNS:
            size = len(pattern[0])
            done(pattern, ("tile", size - 1, 60))
            for word in ("tile", "corner"):
                for flag in (size, size + 1, -1, -size):
                    with self.assertRaises(NotDeed):
                        done(pattern, (word, flag, 60))

    def test_errors_of_the_functions(self):
        for text, place in (("none", 0), ("dual  cut", 5), ("dual ", 5)):
            with self.assertRaises(NotText) as caught:
                done(samples.CUBE, ("recipe", text))
            self.assertEqual(caught.exception.place, place)
        for pattern, deed, limit in (
            (samples.CUBE, ("recipe", "part part"), 24), (samples.ring(120), ("recipe", "middle"), 240),
            (((0,), (0,), (0,), (5000,), (3,)), ("recipe", "cut"), 9999),
            (samples.CUBE, ("cover", 9, 0), 72), (samples.TORUS, ("cover", 4, 10 ** 9), 72),
            (samples.path(121), ("oriented",), 240), (samples.ring(61), ("body",), 240),
        ):
            with self.assertRaises(TooMany) as caught:
                done(pattern, deed)
            self.assertEqual(caught.exception.limit, limit)
        for word in ("tile", "corner"):
            for order in (0, -4, 10000, 10 ** 40, 3 if word == "tile" else 1):
                with self.assertRaises(NotOrder):
                    done(samples.MIRRORED_SQUARE, (word, 0, order))
        for value, place in (((0,), -1), (None, -1), ([0, 0], -1), ((1, 1), 0), ((0, 2), 1), ("00", -1),
                             ((0, True), -1)):
            with self.assertRaises(NotFolding) as caught:
                done(samples.SWAP_0, ("image", value))
            self.assertEqual(caught.exception.place, place)
        for pattern in (samples.TORUS, ONE):
            with self.assertRaises(NotBall):
                done(pattern, ("body",))

    def test_the_pattern_itself_where_nothing_changes(self):
        for pattern in PATTERNS:
            self.assertEqual(done(pattern, ("recipe", "same")), pattern)
            self.assertEqual(done(pattern, ("image", tuple(range(len(pattern[0]))))), pattern)


class AllDone(unittest.TestCase):
    deeds = (("recipe", "middle"), ("cover", 2, 1), ("least",), ("oriented",), ("coarsest",),
             ("recipe", "dual"), ("tile", 0, 12))

    def test_one_after_another(self):
        for pattern in (samples.CUBE, ONE):
            at = pattern
            expected = []
            for deed in self.deeds:
                at = done(at, deed)
                expected.append(at)
            self.assertEqual(list(all_done(pattern, self.deeds)), expected)
            self.assertEqual(list(all_done(pattern, list(self.deeds))), expected)
            self.assertEqual(len(expected), 7)

    def test_it_is_a_generator(self):
        found = all_done(samples.CUBE, [("least",), ("least",)])
        self.assertIs(iter(found), found)
        self.assertEqual(next(found), samples.CUBE)
        self.assertEqual(next(found), samples.CUBE)
        self.assertRaises(StopIteration, next, found)

    def test_an_error_when_its_deed_is_reached(self):
        for wrong, error in ((("none",), NotDeed), (None, NotDeed), (("tile", 0, 0), NotOrder),
                             (("recipe", "no"), NotText), (("image", ()), NotFolding)):
            found = all_done(samples.CUBE, [("recipe", "dual"), ("least",), wrong, ("least",)])
            self.assertEqual(next(found), ((0,), (0,), (0,), (3,), (4,)))
            self.assertEqual(next(found), ((0,), (0,), (0,), (3,), (4,)))
            self.assertRaises(error, next, found)
            first = all_done(samples.CUBE, (wrong,))
            self.assertRaises(error, next, first)

    def test_no_deeds(self):
        self.assertEqual(list(all_done(samples.CUBE, [])), [])
        self.assertEqual(list(all_done(samples.CUBE, ())), [])

    def test_the_deeds_stay_as_they_are(self):
        deeds = [("least",), ("recipe", "dual")]
        kept = list(deeds)
        self.assertEqual(len(list(all_done(samples.CUBE, deeds))), 2)
        self.assertEqual(deeds, kept)
