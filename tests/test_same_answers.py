"""[1]: no function changes its arguments, and the same call twice gives the same answer."""

import copy
import unittest

import samples
from flagfloors.classes import (
    class_of, classes, is_mirrored, order_of, round_of, turn_of, walked,
)
from flagfloors.errors import FlagError
from flagfloors.numberings import least, renumbered, walk
from flagfloors.patterns import breach, check_pattern, size_of
from flagfloors.ratios import minus, over, plus, ratio, sign_of, times

TORUS = samples.TORUS
SQUARE = samples.MIRRORED_SQUARE
BAD_LISTS = [[0], [0], [0], [4], [3]]
TUPLE_OF_LISTS = ([0], [0], [0], [4], [3])

CALLS = [
    (ratio, 6, -4),
    (plus, (1, 2), (-1, 3)),
    (minus, (1, 2), (-1, 3)),
    (times, (1, 2), (-1, 3)),
    (over, (1, 2), (-1, 3)),
    (sign_of, (-1, 3)),
    (breach, TORUS),
    (breach, BAD_LISTS),
    (breach, TUPLE_OF_LISTS),
    (breach, {0: [1]}),
    (check_pattern, TORUS),
    (check_pattern, BAD_LISTS),
    (check_pattern, TUPLE_OF_LISTS),
    (size_of, TORUS),
    (class_of, SQUARE, 3, 2, 1),
    (classes, SQUARE, 2, 0),
    (round_of, SQUARE, 3, 1, 0),
    (order_of, SQUARE, 3, 1, 2),
    (turn_of, SQUARE, 3, 1, 2),
    (is_mirrored, SQUARE, 3, 1, 2),
    (walked, TORUS, 3, [0, 1, 2, 1]),
    (walked, TORUS, 3, (0, 1, 2, 1)),
    (renumbered, TORUS, (7, 6, 5, 4, 3, 2, 1, 0)),
    (walk, TORUS, 5),
    (least, TORUS),
]


def answer(call, given):
    """What a call returns, or its error with the error's attributes."""
    try:
        return call(*given)
    except FlagError as error:
        return (error.__class__, vars(error))


class SameAnswers(unittest.TestCase):
    def test_each_call_twice(self):
        for call, *given in CALLS:
            kept = copy.deepcopy(given)
            first = answer(call, given)
            self.assertEqual(given, kept, call)
            self.assertEqual(answer(call, given), first, call)
            self.assertEqual(given, kept, call)
            self.assertEqual(answer(call, kept), first, call)
