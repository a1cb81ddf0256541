import unittest
from functools import lru_cache
from itertools import combinations_with_replacement, product

import plain_surfaces
from flagfloors.names import check_name, name_sum, normal_name
from flagfloors.sides import PLANE_NAMES, ball_count, is_bad, point_count, side_of

# The seventeen plane names with their handles, turns, borders, crosscaps and point counts.
PLANE = {
    (1, (), (), 0): 1,
    (0, (2, 2, 2, 2), (), 0): 2,
    (0, (3, 3, 3), (), 0): 3,
    (0, (2, 4, 4), (), 0): 4,
    (0, (2, 3, 6), (), 0): 6,
    (0, (), ((2, 2, 2, 2),), 0): 4,
    (0, (), ((3, 3, 3),), 0): 6,
    (0, (), ((2, 4, 4),), 0): 8,
    (0, (), ((2, 3, 6),), 0): 12,
    (0, (4,), ((2,),), 0): 8,
    (0, (3,), ((3,),), 0): 6,
    (0, (2,), ((2, 2),), 0): 4,
    (0, (2, 2), ((),), 0): 4,
    (0, (2, 2), (), 1): 4,
    (0, (), ((), ()), 0): 2,
    (0, (), ((),), 1): 2,
    (0, (), (), 2): 2,
}


def ball_names():
    """The names of the ball with their counts, for orders up to 12 and for 9999."""
    found = {
        (0, (), (), 0): 1, (0, (), ((),), 0): 2, (0, (), (), 1): 2,
        (0, (2, 3, 3), (), 0): 12, (0, (2, 3, 4), (), 0): 24, (0, (2, 3, 5), (), 0): 60,
        (0, (), ((2, 3, 3),), 0): 24, (0, (), ((2, 3, 4),), 0): 48, (0, (), ((2, 3, 5),), 0): 120,
        (0, (3,), ((2,),), 0): 24,
    }
    for n in list(range(2, 13)) + [9999]:
        found[(0, (n, n), (), 0)] = n
        found[(0, (2, 2, n), (), 0)] = 2 * n
        found[(0, (), ((n, n),), 0)] = 2 * n
        found[(0, (), ((2, 2, n),), 0)] = 4 * n
        found[(0, (n,), ((),), 0)] = 2 * n
        found[(0, (n,), (), 1)] = 2 * n
        found[(0, (2,), ((n,),), 0)] = 4 * n
    return found


def bad_names():
    found = []
    for n in (2, 3, 9999):
        found += [(0, (n,), (), 0), (0, (), ((n,),), 0)]
        for m in range(n + 1, n + 3):
            found += [(0, (n, m), (), 0), (0, (), ((n, m),), 0)]
    return found


@lru_cache(maxsize=None)
def small_names(most_order, most_entries):
    """All names of few parts with small orders, without handles beside crosscaps."""
    orders = range(2, most_order + 1)
    sizes = range(most_entries + 1)
    shapes = [()] + [(a,) for a in sizes] + [(a, b) for b in sizes for a in range(b + 1)]
    found = set()
    for many, shape in product(sizes, shapes):
        if many + sum(shape) <= most_entries:
            for turns in combinations_with_replacement(orders, many):
                for borders in product(*[product(orders, repeat=a) for a in shape]):
                    for handles, crosscaps in ((0, 0), (1, 0), (2, 0), (0, 1), (0, 2), (0, 3)):
                        found.add(normal_name(handles, turns, borders, crosscaps))
    return sorted(found)


def near(name):
    """The names one step away from a name: an entry or a part more, less, or another one."""
    handles, turns, borders, crosscaps = name
    found = [(handles + 1, turns, borders, 0), (0, turns, borders, crosscaps + 1),
             (handles, turns, borders + ((),), crosscaps)]
    if handles:
        found.append((handles - 1, turns, borders, crosscaps))
    if crosscaps:
        found.append((handles, turns, borders, crosscaps - 1))
    for row in near_rows(turns):
        found.append((handles, row, borders, crosscaps))
    for at, border in enumerate(borders):
        found.append((handles, turns, borders[:at] + borders[at + 1:], crosscaps))
        for row in near_rows(border):
            found.append((handles, turns, borders[:at] + (row,) + borders[at + 1:], crosscaps))
    return {normal_name(*parts) for parts in found}


def near_rows(row):
    found = [row[:k] + row[k + 1:] for k in range(len(row))]
    found += [row[:k] + (row[k] + step,) + row[k + 1:] for k in range(len(row)) for step in (1, -1)]
    return found + [row[:k] + (2,) + row[k:] for k in range(len(row) + 1)]


def is_plain_bad(name):
    """The four bad kinds: n, mn, *n, *mn with m other than n."""
    handles, turns, borders, crosscaps = name
    if handles or crosscaps or len(borders) > 1:
        return False
    if borders and turns:
        return False
    row = borders[0] if borders else turns
    return len(row) == 1 or len(row) == 2 and row[0] != row[1]


class PlaneNames(unittest.TestCase):
    def test_seventeen_ascending(self):
        self.assertIs(type(PLANE_NAMES), tuple)
        self.assertEqual(PLANE_NAMES, tuple(sorted(PLANE)))
        self.assertEqual(len(PLANE_NAMES), 17)
        for name in PLANE_NAMES:
            self.assertIs(check_name(name), name)

    def test_side_and_point_count(self):
        for name, count in PLANE.items():
            self.assertEqual(side_of(name), "plane")
            self.assertIs(is_bad(name), False)
            self.assertEqual(name_sum(name), (0, 1))
            self.assertEqual(point_count(name), count, name)

    def test_no_others_among_small_names(self):
        found = [name for name in small_names(7, 4) if side_of(name) == "plane"]
        self.assertEqual(tuple(found), PLANE_NAMES)


class Bad(unittest.TestCase):
    def test_four_kinds(self):
        for name in bad_names():
            self.assertIs(is_bad(name), True, name)
            self.assertEqual(side_of(name), "bad", name)

    def test_small_names(self):
        for name in small_names(5, 3):
            self.assertIs(is_bad(name), is_plain_bad(name), name)
            self.assertEqual(side_of(name) == "bad", is_plain_bad(name), name)

    def test_not_bad(self):
        for name in (
            (0, (3, 3), (), 0), (0, (), ((3, 3),), 0), (1, (3,), (), 0), (0, (3,), (), 1),
            (0, (2, 3), (), 1), (0, (), ((3,),), 1), (1, (), ((2, 3),), 0), (0, (3,), ((),), 0),
            (0, (2,), ((3,),), 0), (0, (), ((), (3,)), 0), (0, (), ((2, 3), (2, 3)), 0),
            (0, (2, 3, 4), (), 0), (0, (), ((2, 3, 4),), 0), (0, (), (), 0), (0, (), ((),), 0),
        ):
            self.assertIs(is_bad(name), False, name)
            self.assertNotEqual(side_of(name), "bad", name)


class Ball(unittest.TestCase):
    def test_families(self):
        for name, count in ball_names().items():
            self.assertIs(check_name(name), name)
            self.assertEqual(side_of(name), "ball", name)
            self.assertEqual(ball_count(name), count, name)
            self.assertIs(type(ball_count(name)), int)

    def test_no_others_among_small_names(self):
        known = ball_names()
        for name in small_names(7, 4):
            self.assertEqual(side_of(name) == "ball", name in known, name)


class NamesOneStepAway(unittest.TestCase):
    def test_sides(self):
        begins = list(PLANE) + list(ball_names()) + bad_names()
        for begin in begins:
            for name in near(begin):
                total = plain_surfaces.plain_sum(name)
                side = "ball" if total > 0 else "plane" if total == 0 else "saddle"
                expected = "bad" if is_plain_bad(name) else side
                self.assertEqual(side_of(name), expected, name)
                self.assertEqual(side_of(name) == "plane", name in PLANE, name)

    def test_saddle(self):
        for name in ((0, (2, 3, 7), (), 0), (0, (), ((2, 3, 7),), 0), (2, (), (), 0),
                     (0, (), (), 3), (1, (2,), (), 0), (0, (2, 2, 2, 3), (), 0)):
            self.assertEqual(side_of(name), "saddle")
