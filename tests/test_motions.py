import unittest
from fractions import Fraction

import plane_samples
from flagfloors.decks import decks
from flagfloors.layings import laid
from flagfloors.motions import motions, then
from flagfloors.names import name_of

NOTHING = (((1, 0), (0, 1)), ((0, 1), (0, 1)))


def fitting(made, deck, found):
    """The motions that do with the spans and the places what a deck does with the flags."""
    parts = plane_samples.plain_spans(made)
    spots = [plane_samples.as_fractions(place) for place in made[3]]
    return [
        (matrix, shift) for matrix, shift in found
        if all(plane_samples.seen(matrix, parts[f]) == parts[g] for f, g in enumerate(deck))
        and all(is_near(matrix, shift, spots[f], spots[g]) for f, g in enumerate(deck))
    ]


def is_near(matrix, shift, here, there):
    """Whether a place and the image of another one differ by a pair of integers."""
    image = plane_samples.seen(matrix, here)
    return all((there[k] - image[k] - Fraction(*shift[k])).denominator == 1 for k in (0, 1))


def plain_then(first, second):
    """First one motion and then another one, from the images of three points."""
    def image(motion, point):
        turned = plane_samples.seen(motion[0], point)
        return [turned[k] + Fraction(*motion[1][k]) for k in (0, 1)]

    zero, right, up = [image(second, image(first, point)) for point in ((0, 0), (1, 0), (0, 1))]
    matrix = tuple((int(right[k] - zero[k]), int(up[k] - zero[k])) for k in (0, 1))
    return (matrix, plane_samples.as_ratios([x % 1 for x in zero]))


class Motions(unittest.TestCase):
    def test_one_for_each_deck(self):
        names = set()
        for pattern, made in plane_samples.layings():
            found = motions(made)
            rows = decks(made[:2])
            self.assertEqual(len(found), len(rows))
            self.assertEqual(len(found), plane_samples.POINTS[name_of(pattern)])
            lots = [fitting(made, deck, found) for deck in rows]
            self.assertEqual({len(lot) for lot in lots}, {1})
            self.assertEqual({lot[0] for lot in lots}, set(found))
            names.add(name_of(pattern))
        self.assertEqual(names, set(plane_samples.POINTS))

    def test_form(self):
        for _, made in plane_samples.layings():
            found = motions(made)
            self.assertIs(type(found), tuple)
            self.assertEqual(list(found), sorted(found))
            self.assertEqual(len({matrix for matrix, _ in found}), len(found))
            self.assertIn(NOTHING, found)
            for matrix, shift in found:
                self.assertEqual([type(x) for row in matrix for x in row], [int] * 4)
                self.assertEqual([type(row) for row in matrix], [tuple, tuple])
                (a, b), (c, d) = matrix
                self.assertIn(a * d - b * c, (1, -1))
                for part in shift:
                    self.assertEqual([type(x) for x in part], [int, int])
                    value = Fraction(*part)
                    self.assertEqual((value.numerator, value.denominator), part)
                    self.assertTrue(0 <= value < 1)

    def test_squares(self):
        # All changes of signs and of the two axes, up to which pairs the steps are.
        found = motions(laid(plane_samples.SQUARES))
        self.assertEqual(len(found), 8)
        self.assertEqual({shift for _, shift in found}, {((0, 1), (0, 1))})
        self.assertEqual(sum(a * d - b * c for ((a, b), (c, d)), _ in found), 0)

    def test_shifts_other_than_zero(self):
        shifts = {shift for _, made in plane_samples.layings() for _, shift in motions(made)}
        self.assertGreater(len(shifts), 10)


class Then(unittest.TestCase):
    def test_closed(self):
        for _, made in plane_samples.layings():
            found = motions(made)
            for first in found:
                self.assertEqual({then(first, second) for second in found}, set(found))

    def test_the_first_one_first(self):
        unlike = 0
        for _, made in plane_samples.layings()[::3]:
            found = motions(made)
            for first in found:
                for second in found:
                    self.assertEqual(then(first, second), plain_then(first, second))
                    unlike += then(first, second) != then(second, first)
        self.assertGreater(unlike, 0)

    def test_of_motions_of_different_layings(self):
        lots = [motions(made) for _, made in plane_samples.layings()[::11]]
        for first in [found[-1] for found in lots]:
            for second in [found[0] for found in lots]:
                made = then(first, second)
                self.assertEqual(made, plain_then(first, second))
                for top, bottom in made[1]:
                    self.assertTrue(0 <= top < bottom)

    def test_decks_one_after_another(self):
        for _, made in plane_samples.layings()[::5]:
            rows = decks(made[:2])
            found = motions(made)
            lots = [fitting(made, deck, found)[0] for deck in rows]
            for deck, first in zip(rows, lots):
                for other, second in zip(rows, lots):
                    both = tuple(other[f] for f in deck)
                    self.assertEqual(then(first, second), lots[rows.index(both)])

    def test_nothing(self):
        for _, made in plane_samples.layings()[::9]:
            for motion in motions(made):
                self.assertEqual(then(NOTHING, motion), motion)
                self.assertEqual(then(motion, NOTHING), motion)
