import unittest
from fractions import Fraction
from itertools import product
from math import gcd

import plane_samples
import samples
import test_ringcovers
from flagfloors.applying import applied
from flagfloors.errors import NotPlane, TooMany
from flagfloors.layings import is_laying, laid, spans
from flagfloors.names import name_of
from flagfloors.recipewords import recipe_of_words
from flagfloors.ringcovers import ring_cover


def closed_sums(above, steps):
    """Sums along closed walks that begin at the corner of flag 0, of which all others are made."""
    corner = plane_samples.corners_of(above)
    heads = {corner[0]: (0, 0)}
    grown = True
    while grown:
        grown = False
        for f, after in enumerate(above[0]):
            if corner[f] in heads and corner[after] not in heads:
                x, y = heads[corner[f]]
                heads[corner[after]] = (x + steps[f][0], y + steps[f][1])
                grown = True
    found = set()
    for f, after in enumerate(above[0]):
        a, b = heads[corner[f]], heads[corner[after]]
        found.add((a[0] + steps[f][0] - b[0], a[1] + steps[f][1] - b[1]))
    return sorted(found)


def broken_rules(pattern, value):
    """The rules of [40] that a value of the right kinds breaks."""
    above, lead, steps, places = value
    s0, s1, s2 = above[:3]
    flags = range(len(lead))
    found = set()
    if (above, lead) != ring_cover(pattern):
        found.add("cover")
    if any(steps[s0[f]] != (-steps[f][0], -steps[f][1]) for f in flags):
        found.add("back")
    if any(steps[s2[f]] != steps[f] for f in flags):
        found.add("across")
    for f in flags:
        row = plane_samples.plain_round(above, f, 0)
        if any(sum(steps[g][k] for g in row) != 0 for k in (0, 1)):
            found.add("tile")
    sums = closed_sums(above, steps)
    common = 0
    for a in sums:
        for b in sums:
            common = gcd(common, a[0] * b[1] - a[1] * b[0])
    if common != 1:
        found.add("closed")
    corner = plane_samples.corners_of(above)
    if any(places[f] != places[corner[f]] for f in flags):
        found.add("alike")
    if places[0] != ((0, 1), (0, 1)):
        found.add("zero")
    parts = plane_samples.plain_spans(value)
    for c in set(corner):
        if any(sum(parts[f][k] for f in flags if corner[f] == c) != 0 for k in (0, 1)):
            found.add("middle")
    return found


def solved_places(above, steps):
    """The places for given steps, by fractions; None if there are none."""
    corner = plane_samples.corners_of(above)
    names = sorted(set(corner))
    rows = {c: {d: Fraction(0) for d in names} for c in names}
    sums = {c: [Fraction(0), Fraction(0)] for c in names}
    for f, after in enumerate(above[0]):
        rows[corner[f]][corner[f]] += 1
        rows[corner[f]][corner[after]] -= 1
        for k in (0, 1):
            sums[corner[f]][k] += steps[f][k]
    left = names[1:]
    for c in left:
        for d in left:
            if d != c and rows[d][c] != 0:
                factor = rows[d][c] / rows[c][c]
                for e in left:
                    rows[d][e] -= factor * rows[c][e]
                for k in (0, 1):
                    sums[d][k] -= factor * sums[c][k]
    spots = {names[0]: (Fraction(0), Fraction(0))}
    for c in left:
        spots[c] = tuple(sums[c][k] / rows[c][c] for k in (0, 1))
    return tuple(plane_samples.as_ratios(spots[c]) for c in corner)


def with_steps(made, steps):
    """A laying's cover with other steps and the places that belong to them."""
    return (made[0], made[1], tuple(steps), solved_places(made[0], steps))


def replaced(row, at, value):
    return row[:at] + (value,) + row[at + 1:]


def seen_through(matrix, made):
    """A laying seen through a matrix, which need not leave it a laying."""
    above, lead, steps, places = made
    spots = [plane_samples.seen(matrix, plane_samples.as_fractions(place)) for place in places]
    return (above, lead, tuple(plane_samples.seen(matrix, step) for step in steps),
            tuple(plane_samples.as_ratios(spot) for spot in spots))


def edge_flags(above, flag):
    """The flags of an edge that lead one way, and those that lead the other way."""
    here = (flag, above[2][flag])
    return here, tuple(above[0][f] for f in here)


class Laid(unittest.TestCase):
    def test_all_rules(self):
        names = set()
        for pattern in plane_samples.plane_patterns():
            made = laid(pattern)
            self.assertIs(type(made), tuple)
            self.assertEqual(len(made), 4)
            self.assertEqual(made[:2], ring_cover(pattern))
            size = len(made[1])
            self.assertEqual((len(made[2]), len(made[3])), (size, size))
            self.assertEqual(broken_rules(pattern, made), set())
            names.add(name_of(pattern))
        self.assertEqual(names, set(plane_samples.POINTS))

    def test_kinds_of_values(self):
        for pattern in plane_samples.plane_patterns():
            _, _, steps, places = laid(pattern)
            for pair in steps:
                self.assertEqual([type(pair), len(pair)], [tuple, 2])
                self.assertEqual([type(x) for x in pair], [int, int])
                self.assertTrue(all(len(str(abs(x))) <= 100 for x in pair))
            for place in places:
                self.assertEqual([type(place), len(place)], [tuple, 2])
                for part in place:
                    self.assertEqual([type(x) for x in part], [int, int])
                    self.assertEqual((Fraction(*part).numerator, Fraction(*part).denominator), part)

    def test_places_belong_to_the_steps(self):
        for pattern in plane_samples.plane_patterns()[::3]:
            above, _, steps, places = laid(pattern)
            self.assertEqual(places, solved_places(above, steps))

    def test_the_same_each_time(self):
        for pattern in plane_samples.plane_patterns()[::5]:
            copy = tuple(tuple(list(row)) for row in pattern)
            self.assertEqual(laid(pattern), laid(copy))

    def test_orders_of_1_and_2(self):
        patterns = plane_samples.plane_patterns()
        for i in (3, 4):
            self.assertLessEqual({1, 2}, {order for pattern in patterns for order in pattern[i]})

    def test_240_flags(self):
        pattern = test_ringcovers.dangling((1, 2, -1, -2), 58)
        made = laid(pattern)
        self.assertEqual(broken_rules(pattern, made), set())
        pattern = applied(recipe_of_words("raise raise"), samples.TORUS)
        pattern = applied(recipe_of_words("raise"), pattern)
        made = laid(pattern)
        self.assertEqual(len(made[1]), 216)
        self.assertEqual(broken_rules(pattern, made), set())

    def test_other_sides_and_more_than_240_flags(self):
        for pattern in test_ringcovers.not_planes():
            with self.assertRaises(NotPlane):
                laid(pattern)
        for pattern in (test_ringcovers.dangling((1, 2, -1, 2), 29),
                        applied(recipe_of_words("part expand"), plane_samples.TRIANGLES)):
            with self.assertRaises(TooMany) as caught:
                laid(pattern)
            self.assertEqual(caught.exception.limit, 240)


class IsLaying(unittest.TestCase):
    def refused(self, pattern, value):
        self.assertIs(is_laying(pattern, value), False)

    def test_those_made_and_those_by_other_steps(self):
        for pattern, value in plane_samples.layings():
            self.assertEqual(broken_rules(pattern, value), set())
            self.assertIs(is_laying(pattern, value), True)

    def test_steps_of_many_digits(self):
        for pattern in plane_samples.plane_patterns()[::7]:
            great = 10 ** 150
            value = plane_samples.other_laying(laid(pattern), ((1, great), (0, -1)), 3)
            self.assertIs(is_laying(pattern, value), True)

    def test_a_changed_step(self):
        for pattern, value in plane_samples.layings()[::7]:
            above, lead, steps, places = value
            for at in range(0, len(steps), max(1, len(steps) // 9)):
                for more in ((1, 0), (0, -1), (-2, 3)):
                    changed = (steps[at][0] + more[0], steps[at][1] + more[1])
                    self.refused(pattern, (above, lead, replaced(steps, at, changed), places))

    def test_a_changed_edge_breaks_the_tiles(self):
        told = set()
        for pattern, value in plane_samples.layings()[::5]:
            above, _, steps, _ = value
            for flag in range(0, len(steps), max(1, len(steps) // 5)):
                changed = list(steps)
                here, there = edge_flags(above, flag)
                for f in here:
                    changed[f] = (steps[f][0] + 2, steps[f][1] - 1)
                for f in there:
                    changed[f] = (steps[f][0] - 2, steps[f][1] + 1)
                other = with_steps(value, changed)
                rules = broken_rules(pattern, other)
                self.assertIs(is_laying(pattern, other), not rules)
                told.add(tuple(sorted(rules)))
        self.assertIn(("tile",), told)

    def test_unlike_steps_on_both_sides_of_an_edge(self):
        pattern = samples.TORUS
        above, lead, steps, places = laid(pattern)
        for at in range(8):
            other = above[0][at]
            changed = replaced(replaced(steps, at, (5, 5)), other, (-5, -5))
            self.assertIn("across", broken_rules(pattern, (above, lead, changed, places)))
            self.refused(pattern, (above, lead, changed, places))

    def test_each_rule_of_the_steps_by_itself(self):
        pattern = samples.TORUS
        above, lead, steps, places = laid(pattern)
        first, second = [here for here in range(8) if here < min(
            above[0][here], above[2][here], above[0][above[2][here]]
        )]
        back = list(steps)
        for flag, more in ((first, 2), (second, -2)):
            here, there = edge_flags(above, flag)
            for f in here + there:
                back[f] = (steps[f][0] + more, steps[f][1])
        across = list(steps)
        row = plane_samples.plain_round(above, 0, 0)
        for flag, step in zip(row, ((1, 0), (0, 1), (-2, 0), (1, -1))):
            across[flag] = step
            across[above[0][flag]] = (-step[0], -step[1])
        for rule, changed in (("back", back), ("across", across)):
            value = (above, lead, tuple(changed), places)
            self.assertEqual(broken_rules(pattern, value), {rule})
            self.refused(pattern, value)

    def test_all_small_matrices(self):
        value = laid(plane_samples.SQUARES)
        for matrix in product(product(range(-2, 3), repeat=2), repeat=2):
            (a, b), (c, d) = matrix
            self.assertIs(is_laying(plane_samples.SQUARES, seen_through(matrix, value)),
                          a * d - b * c in (1, -1), matrix)
        for matrix in (((8, 5), (5, 3)), ((55, 34), (34, 21)), ((7, 3), (2, 1)), ((3, -7), (-2, 5))):
            for pattern in plane_samples.plane_patterns()[::6]:
                self.assertIs(is_laying(pattern, seen_through(matrix, laid(pattern))), True)
        for matrix in (((3, 1), (1, 2)), ((8, 5), (5, 2)), ((12, 7), (5, 4)), ((6, 10), (15, 1))):
            for pattern in plane_samples.plane_patterns()[::6]:
                self.assertIs(is_laying(pattern, seen_through(matrix, laid(pattern))), False)

    def test_fewer_pairs(self):
        for pattern, value in plane_samples.layings()[::5]:
            for matrix in (((2, 0), (0, 1)), ((1, 1), (1, -1)), ((0, 0), (0, 0)), ((3, 0), (0, 3)),
                           ((1, 2), (2, 4)), ((1, 0), (0, 0)), ((0, 0), (0, 1)), ((5, 3), (2, 2))):
                other = seen_through(matrix, value)
                self.assertEqual(broken_rules(pattern, other), {"closed"})
                self.refused(pattern, other)

    def test_changed_places(self):
        for pattern, value in plane_samples.layings()[::7]:
            above, lead, steps, places = value
            for at in range(0, len(places), max(1, len(places) // 9)):
                for k in (0, 1):
                    part = Fraction(*places[at][k]) + Fraction(1, 7)
                    place = replaced(places[at], k, (part.numerator, part.denominator))
                    self.refused(pattern, (above, lead, steps, replaced(places, at, place)))

    def test_places_moved_as_a_whole(self):
        for pattern, value in plane_samples.layings()[::7]:
            above, lead, steps, places = value
            for more in ((1, 0), (0, 1), (Fraction(1, 2), 0), (-3, Fraction(2, 3))):
                moved = tuple(
                    plane_samples.as_ratios([Fraction(*place[k]) + more[k] for k in (0, 1)])
                    for place in places
                )
                other = (above, lead, steps, moved)
                self.assertEqual(broken_rules(pattern, other), {"zero"})
                self.refused(pattern, other)

    def test_a_whole_corner_moved(self):
        told = 0
        for pattern, value in plane_samples.layings()[::7]:
            above, lead, steps, places = value
            corner = plane_samples.corners_of(above)
            for c in sorted(set(corner) - {corner[0]})[:3]:
                for k in (0, 1):
                    moved = tuple(
                        replaced(place, k, (1, 97)) if corner[f] == c else place
                        for f, place in enumerate(places)
                    )
                    other = (above, lead, steps, moved)
                    self.assertEqual(broken_rules(pattern, other), {"middle"})
                    self.refused(pattern, other)
                    told += 1
        self.assertGreater(told, 20)

    def test_wrong_ratios_at_a_whole_corner(self):
        told = 0
        for pattern, value in plane_samples.layings()[::7]:
            above, lead, steps, places = value
            corner = plane_samples.corners_of(above)
            for c in sorted(set(corner) - {corner[0]})[:2]:
                for k in (0, 1):
                    a, b = places[corner.index(c)][k]
                    for part in ((2 * a, 2 * b), (-a, -b), (3 * a, 3 * b), (0, 0), (1, 0), (-1, 0),
                                 (a, b, 1), (a,), [a, b], Fraction(a, b), a):
                        wrong = tuple(
                            replaced(place, k, part) if corner[f] == c else place
                            for f, place in enumerate(places)
                        )
                        self.refused(pattern, (above, lead, steps, wrong))
                for place in (places[corner.index(c)] + ((0, 1),), places[corner.index(c)][:1]):
                    wrong = tuple(
                        place if corner[f] == c else other for f, other in enumerate(places)
                    )
                    self.refused(pattern, (above, lead, steps, wrong))
                    told += 1
        self.assertGreater(told, 20)

    def test_a_corner_with_unlike_places(self):
        # With one corner alone, the spans add up to zero all the same.
        value = laid(samples.TORUS)
        lots = [(at,) for at in range(1, 8)]
        for change in value[0][1:3]:
            lots += [(at, after) for at, after in enumerate(change) if 0 < at < after]
        self.assertEqual(len(lots), 13)
        for lot in lots:
            moved = value[3]
            for at in lot:
                moved = replaced(moved, at, ((1, 2), (1, 3)))
            self.assertEqual(broken_rules(samples.TORUS, value[:3] + (moved,)), {"alike"})
            self.refused(samples.TORUS, value[:3] + (moved,))

    def test_another_cover(self):
        for pattern, value in plane_samples.layings()[::5]:
            above, lead, steps, places = value
            size = len(lead)
            for at in (0, size // 2, size - 1):
                self.refused(pattern, (above, replaced(lead, at, lead[at] + 1), steps, places))
                for i in range(5):
                    row = replaced(above[i], at, above[i][at] + 1)
                    self.refused(pattern, (replaced(above, i, row), lead, steps, places))
            # The very same laying with its flags numbered in another way.
            listing = (1,) + (0,) + tuple(range(2, size))
            turned = [tuple(row[f] for f in listing) for row in (lead, steps, places)]
            changes = tuple(tuple(listing.index(s[f]) for f in listing) for s in above[:3])
            orders = tuple(tuple(row[f] for f in listing) for row in above[3:])
            self.refused(pattern, (changes + orders,) + tuple(turned))

    def test_laying_of_another_pattern(self):
        self.refused(plane_samples.SQUARES, laid(plane_samples.TRIANGLES))
        self.refused(plane_samples.TRIANGLES, laid(plane_samples.HEXAGONS))
        # The same table above, but another lead.
        self.assertEqual(ring_cover(samples.TORUS)[0], ring_cover(plane_samples.SQUARES)[0])
        self.refused(samples.TORUS, laid(plane_samples.SQUARES))
        self.refused(plane_samples.SQUARES, laid(samples.TORUS))

    def test_other_lengths(self):
        for pattern, value in plane_samples.layings()[::13]:
            above, lead, steps, places = value
            for other in (
                (above, lead, steps), (above, lead, steps, places, ()), (), (value,),
                (above, lead, steps[:-1], places), (above, lead, steps, places[:-1]),
                (above, lead[:-1], steps, places), (above[:4], lead, steps, places),
                (above, lead, steps + steps[:1], places), (above, lead, steps, places + places[:1]),
                (above, lead, (), places), (above, lead, steps, ()),
                (above, lead, tuple(step + (0,) for step in steps), places),
                (above, lead, tuple(step[:1] for step in steps), places),
                (above, lead, steps, tuple(place + ((0, 1),) for place in places)),
                (above, lead, steps, tuple(place[:1] for place in places)),
                (above, lead, steps, tuple((x + (1,), y) for x, y in places)),
            ):
                self.refused(pattern, other)

    def test_other_kinds(self):
        for pattern, value in plane_samples.layings()[::13]:
            above, lead, steps, places = value
            for other in (
                None, 0, 1, True, "", "0", b"", 1.5, [], {}, set(), object(), [above, lead, steps, places],
                list(value), (None, lead, steps, places), (above, None, steps, places),
                (above, lead, None, places), (above, lead, steps, None), (0, 0, 0, 0),
                ([list(row) for row in above], lead, steps, places),
                (tuple(list(row) for row in above), lead, steps, places),
                (above, list(lead), steps, places), (above, lead, list(steps), places),
                (above, lead, steps, list(places)),
                (above, lead, tuple(list(step) for step in steps), places),
                (above, lead, steps, tuple(list(place) for place in places)),
                (above, lead, steps, tuple(tuple(list(part) for part in place) for place in places)),
                (above, lead, dict(enumerate(steps)), places),
                (above, lead, "0" * len(steps), places), (above, lead, steps, "0" * len(steps)),
                (above, lead, tuple(tuple(float(x) for x in step) for step in steps), places),
                (above, lead, steps, tuple(plane_samples.as_fractions(place) for place in places)),
                (above, lead, (None,) * len(steps), places), (above, lead, steps, (None,) * len(steps)),
            ):
                self.refused(pattern, other)

    def test_true_and_false(self):
        for pattern, value in plane_samples.layings()[::13]:
            above, lead, steps, places = value
            for at in range(len(lead)):
                told = []
                if lead[at] in (0, 1):
                    told.append((above, replaced(lead, at, bool(lead[at])), steps, places))
                for i in range(5):
                    if above[i][at] in (0, 1):
                        row = replaced(above[i], at, bool(above[i][at]))
                        told.append((replaced(above, i, row), lead, steps, places))
                for k in (0, 1):
                    if steps[at][k] in (0, 1):
                        step = replaced(steps[at], k, bool(steps[at][k]))
                        told.append((above, lead, replaced(steps, at, step), places))
                    if places[at][k] == (0, 1):
                        for part in ((False, 1), (0, True)):
                            place = replaced(places[at], k, part)
                            told.append((above, lead, steps, replaced(places, at, place)))
                for other in told:
                    self.assertEqual(other, value)
                    self.refused(pattern, other)

    def test_ratios_not_in_lowest_terms(self):
        for pattern, value in plane_samples.layings()[::13]:
            above, lead, steps, places = value
            for factor in (2, -1, 0):
                for k in (0, 1):
                    other = tuple(
                        replaced(place, k, (factor * place[k][0], factor * place[k][1]))
                        for place in places
                    )
                    self.refused(pattern, (above, lead, steps, other))
                    for at in (0, len(places) - 1):
                        self.refused(pattern, (above, lead, steps, replaced(places, at, other[at])))

    def test_errors_whatever_the_value_is(self):
        value = laid(plane_samples.SQUARES)
        for given in (value, None, [], (value[0],), 7):
            for pattern in test_ringcovers.not_planes():
                with self.assertRaises(NotPlane):
                    is_laying(pattern, given)
            with self.assertRaises(TooMany) as caught:
                is_laying(test_ringcovers.dangling((1, 2, -1, 2), 29), given)
            self.assertEqual(caught.exception.limit, 240)


class Spans(unittest.TestCase):
    def test_as_the_point_says(self):
        for _, value in plane_samples.layings():
            expected = tuple(plane_samples.as_ratios(pair) for pair in plane_samples.plain_spans(value))
            self.assertEqual(spans(value), expected)

    def test_squares(self):
        found = spans(laid(plane_samples.SQUARES))
        self.assertEqual(len(found), 8)
        self.assertEqual(len(set(found)), 4)
        for x, y in found:
            self.assertIn(((-x[0], x[1]), (-y[0], y[1])), found)
