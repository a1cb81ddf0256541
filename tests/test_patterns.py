import unittest

import samples
from flagfloors.errors import NotPattern
from flagfloors.patterns import breach, check_pattern, size_of

ONE = samples.CUBE


def put(pattern, row, flag, entry):
    """The pattern with another entry at one place."""
    changed = list(pattern[row])
    changed[flag] = entry
    return pattern[:row] + (tuple(changed),) + pattern[row + 1:]


def all_rows(pattern, row, entry):
    return pattern[:row] + ((entry,) * len(pattern[row]),) + pattern[row + 1:]


def plain_breach(value):
    """The rules of [5] behind "form", straight from their words."""
    size = len(value[0])
    s0, s1, s2, p, q = value
    flags = range(size)

    def leads_back(f):
        return all(s[f] in flags and s[s[f]] == f for s in (s0, s1, s2))

    def suits(f, first, second, orders):
        return (
            orders[f] in range(1, 10000)
            and orders[f] == orders[first[f]] == orders[second[f]]
            and orders[f] % samples.plain_round(first, second, f) == 0
        )

    for rule, keeps in (
        ("change", leads_back),
        ("square", lambda f: s0[s2[f]] == s2[s0[f]]),
        ("tile", lambda f: suits(f, s0, s1, p)),
        ("corner", lambda f: suits(f, s1, s2, q)),
    ):
        for f in flags:
            if not keeps(f):
                return (rule, f)
    seen = {0}
    for _ in flags:
        seen |= {s[f] for s in (s0, s1, s2) for f in seen}
    left = [f for f in flags if f not in seen]
    return ("whole", left[0]) if left else None


class Valid(unittest.TestCase):
    def test_valid_patterns(self):
        for pattern in samples.small_patterns(4):
            self.assertIsNone(breach(pattern))
            self.assertIs(check_pattern(pattern), pattern)
            self.assertEqual(size_of(pattern), len(pattern[0]))
        for pattern in (samples.MIRRORED_SQUARE, samples.TORUS, samples.SWAP_0):
            self.assertIsNone(breach(pattern))

    def test_240_flags(self):
        pattern = samples.ring(120)
        self.assertEqual(len(pattern[0]), 240)
        self.assertIsNone(breach(pattern))
        self.assertIs(check_pattern(pattern), pattern)
        self.assertEqual(size_of(pattern), 240)

    def test_order_9999(self):
        self.assertIsNone(breach(all_rows(all_rows(ONE, 3, 9999), 4, 9999)))
        self.assertIsNone(breach(samples.ring(3, 9999)))


class Form(unittest.TestCase):
    def refused(self, value):
        self.assertEqual(breach(value), ("form", -1))
        self.assertEqual(breach(value), ("form", -1))
        with self.assertRaises(NotPattern) as caught:
            check_pattern(value)
        self.assertEqual((caught.exception.rule, caught.exception.place), ("form", -1))

    def test_values_of_another_kind(self):
        for value in (None, 0, 1, True, "00043", b"00043", {}, {0: 1}, set(), object(), 1.5, len):
            self.refused(value)

    def test_lists_in_the_place_of_tuples(self):
        self.refused([(0,), (0,), (0,), (4,), (3,)])
        for row in range(5):
            self.refused(ONE[:row] + (list(ONE[row]),) + ONE[row + 1:])

    def test_rows_of_another_kind(self):
        for row in range(5):
            for entry in (None, 0, "0", {0: 0}, {0}, b"\x00", range(1)):
                self.refused(ONE[:row] + (entry,) + ONE[row + 1:])

    def test_another_number_of_rows(self):
        for many in range(8):
            if many != 5:
                self.refused(((0,),) * many)

    def test_rows_of_unlike_length(self):
        for row in range(5):
            for entry in ((), (0, 0), ONE[row] + (0,)):
                self.refused(ONE[:row] + (entry,) + ONE[row + 1:])

    def test_entries_that_are_no_integers(self):
        for row in range(5):
            for entry in (True, False, "0", "4", None, 0.0, 4.0, (0,), [0], b"0"):
                self.refused(put(ONE, row, 0, entry))
                self.refused(put(samples.TORUS, row, 7, entry))

    def test_no_flags(self):
        self.refused(((), (), (), (), ()))

    def test_241_flags(self):
        many = tuple(range(241))
        self.refused((many, many, many, (1,) * 241, (1,) * 241))
        self.refused(samples.ring(121))

    def test_a_list_that_is_passed_stays(self):
        value = [[0], [0], [0], [4], [3]]
        breach(value)
        self.assertEqual(value, [[0], [0], [0], [4], [3]])


class Rules(unittest.TestCase):
    def refused(self, value, rule, place):
        self.assertEqual(breach(value), (rule, place))
        self.assertEqual(breach(value), (rule, place))
        with self.assertRaises(NotPattern) as caught:
            check_pattern(value)
        self.assertEqual((caught.exception.rule, caught.exception.place), (rule, place))

    def test_change_to_no_flag(self):
        for row in range(3):
            for entry in (-1, 1, 240, 10 ** 30, -(10 ** 30)):
                self.refused(put(ONE, row, 0, entry), "change", 0)
            for entry in (-1, 8):
                self.refused(put(samples.MIRRORED_SQUARE, row, 5, entry), "change",
                             min(5, samples.MIRRORED_SQUARE[row][5]))

    def test_change_that_does_not_lead_back(self):
        self.refused(put(samples.TORUS, 0, 0, 2), "change", 0)
        self.refused(put(samples.TORUS, 0, 6, 6), "change", 7)
        self.refused(put(samples.TORUS, 2, 3, 3), "change", 6)
        self.refused(put(put(samples.TORUS, 0, 6, 6), 2, 3, 3), "change", 6)

    def test_square(self):
        pairs = (1, 0, 3, 2)
        still = (0, 1, 2, 3)
        s2 = (0, 2, 1, 3)
        self.assertIsNone(breach((still, pairs, s2, (2,) * 4, (4,) * 4)))
        self.refused((pairs, pairs, s2, (2,) * 4, (4,) * 4), "square", 0)
        s0 = (0, 1, 3, 2, 4)
        s1 = (1, 0, 2, 3, 4)
        s2 = (0, 1, 2, 4, 3)
        self.refused((s0, s1, s2, (1,) * 5, (1,) * 5), "square", 2)

    def test_tile(self):
        for order in (0, -1, -4, 10000, 10 ** 30):
            self.refused(all_rows(ONE, 3, order), "tile", 0)
            self.refused(all_rows(samples.TORUS, 3, order), "tile", 0)
        for order in (1, 2, 3, 5, 6, 9999):
            self.refused(all_rows(samples.TORUS, 3, order), "tile", 0)
        for order in (4, 8, 9996):
            self.assertIsNone(breach(all_rows(samples.TORUS, 3, order)))

    def test_tile_with_unlike_orders(self):
        self.refused(put(samples.TORUS, 3, 5, 8), "tile", 4)
        self.refused(put(samples.TORUS, 3, 7, 8), "tile", 0)
        # Only change 1, only change 0 leads to the other order.
        two = ((0, 1), (1, 0), (0, 1), (2, 4), (2, 2))
        self.refused(two, "tile", 0)
        self.refused(((1, 0), (0, 1), (0, 1), (2, 4), (2, 2)), "tile", 0)

    def test_the_place_of_a_bad_order_in_a_later_tile(self):
        two = ((0, 1), (0, 1), (1, 0), (3, 0), (2, 2))
        self.refused(two, "tile", 1)
        self.refused(two[:3] + ((3, 10000), (2, 2)), "tile", 1)
        self.assertIsNone(breach(two[:3] + ((3, 5), (2, 2))))

    def test_corner(self):
        for order in (0, -1, -4, 10000, 10 ** 30):
            self.refused(all_rows(ONE, 4, order), "corner", 0)
            self.refused(all_rows(samples.TORUS, 4, order), "corner", 0)
        for order in (1, 2, 3, 5, 6, 9999):
            self.refused(all_rows(samples.TORUS, 4, order), "corner", 0)
        for order in (4, 8, 9996):
            self.assertIsNone(breach(all_rows(samples.TORUS, 4, order)))
        self.refused(put(samples.MIRRORED_SQUARE, 4, 6, 8), "corner", 5)
        self.refused(put(samples.MIRRORED_SQUARE, 4, 3, 8), "corner", 3)
        self.refused(((1, 0), (0, 1), (0, 1), (2, 2), (3, 0)), "corner", 1)

    def test_whole(self):
        still = (0, 1, 2)
        self.refused((still, still, still, (1,) * 3, (1,) * 3), "whole", 1)
        self.refused((still, (1, 0, 2), still, (2, 2, 1), (2, 2, 1)), "whole", 2)
        self.refused((still, (2, 1, 0), still, (2, 1, 2), (2, 1, 2)), "whole", 1)

    def test_two_rules_at_once(self):
        square = ((1, 0, 3, 2), (0, 1, 2, 3), (0, 2, 1, 3), (0,) * 4, (0,) * 4)
        self.refused(square, "square", 0)
        self.refused(put(square, 1, 3, 2), "change", 3)
        self.refused(((1, 0), (0, 1), (0, 1), (0, 0), (0, 0)), "tile", 0)
        self.refused(((1, 0), (0, 1), (0, 1), (2, 2), (2, 0)), "corner", 1)
        self.refused(((0, 1), (0, 1), (0, 1), (1, 0), (0, 0)), "tile", 1)
        self.refused(((0, 1), (0, 1), (0, 1), (1, 1), (0, 0)), "corner", 0)
        self.refused(put(put(samples.TORUS, 0, 0, 9), 3, 0, True), "form", -1)
        self.refused(put(samples.TORUS, 3, 0, True), "form", -1)

    def test_every_change_of_one_entry(self):
        for pattern in samples.small_patterns(4)[::7] + (samples.TORUS, samples.MIRRORED_SQUARE):
            for row in range(5):
                for flag in range(len(pattern[0])):
                    for entry in (-1, 0, 1, 2, 3, 4, 6, 8, 9999, 10000):
                        value = put(pattern, row, flag, entry)
                        self.assertEqual(breach(value), plain_breach(value), value)
