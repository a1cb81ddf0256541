"""[1]: no function changes its arguments, and the same call twice gives the same answer."""

import copy
import unittest

import samples
from flagfloors.classes import (
    class_of, classes, is_mirrored, order_of, round_of, turn_of, walked,
)
from flagfloors.commons import common_cover
from flagfloors.errors import FlagError
from flagfloors.foldings import (
    check_folding, coarsest, folded, foldings, is_finer, joined, met,
)
from flagfloors.glue import glued
from flagfloors.leads import are_alike, leads, selves
from flagfloors.numberings import least, renumbered, walk
from flagfloors.orders import reordered
from flagfloors.patterns import breach, check_pattern, size_of
from flagfloors.ratios import minus, over, plus, ratio, sign_of, times
from flagfloors.texts import read_pattern, written

TORUS = samples.TORUS
SQUARE = samples.MIRRORED_SQUARE
BAD_LISTS = [[0], [0], [0], [4], [3]]
TUPLE_OF_LISTS = ([0], [0], [0], [4], [3])

CALLS = [
    (ratio, 6, -4),
    (plus, (1, 2), (-1, 3)),
    (minus, (1, 2), (-1, 3)),
    (times, (1, 2), (-1, 3)),
    (over, (1, 2), (-1, 3)),
    (sign_of, (-1, 3)),
    (breach, TORUS),
    (breach, BAD_LISTS),
    (breach, TUPLE_OF_LISTS),
    (breach, {0: [1]}),
    (check_pattern, TORUS),
    (check_pattern, BAD_LISTS),
    (check_pattern, TUPLE_OF_LISTS),
    (size_of, TORUS),
    (class_of, SQUARE, 3, 2, 1),
    (classes, SQUARE, 2, 0),
    (round_of, SQUARE, 3, 1, 0),
    (order_of, SQUARE, 3, 1, 2),
    (turn_of, SQUARE, 3, 1, 2),
    (is_mirrored, SQUARE, 3, 1, 2),
    (walked, TORUS, 3, [0, 1, 2, 1]),
    (walked, TORUS, 3, (0, 1, 2, 1)),
    (renumbered, TORUS, (7, 6, 5, 4, 3, 2, 1, 0)),
    (walk, TORUS, 5),
    (least, TORUS),
    (reordered, SQUARE, "corner", 3, 6),
    (reordered, SQUARE, "corner", 3, [6]),
    (glued, ((1, 2, -1, -2),)),
    (glued, [[1, 2, -1, -2]]),
    (glued, ([1, 2], [3])),
    (written, TORUS),
    (read_pattern, "0; 0; 0; 4; 3"),
    (read_pattern, "0; 0; 0; 4"),
    (read_pattern, "0; 0; 0; 4; 0"),
    (leads, TORUS, TORUS),
    (leads, samples.ring(4, 8), samples.ring(2, 8)),
    (are_alike, TORUS, SQUARE),
    (selves, TORUS),
    (check_folding, TORUS, (0,) * 8),
    (check_folding, TORUS, [0] * 8),
    (folded, TORUS, (0,) * 8),
    (is_finer, (0, 1, 0, 1), (0, 0, 0, 0)),
    (met, (0, 1, 0, 1), (0, 0, 1, 1)),
    (joined, (0, 1, 2, 1), (0, 1, 1, 2)),
    (foldings, TORUS),
    (foldings, samples.ring(13)),
    (coarsest, TORUS),
    (common_cover, samples.ring(4, 12), samples.ring(6, 12)),
    (common_cover, samples.ring(11, 132), samples.ring(12, 132)),
    (common_cover, TORUS, samples.ring(6)),
]


def answer(call, given):
    """What a call returns, or its error with the error's attributes."""
    try:
        return call(*given)
    except FlagError as error:
        return (error.__class__, vars(error))


class SameAnswers(unittest.TestCase):
    def test_each_call_twice(self):
        for call, *given in CALLS:
            kept = copy.deepcopy(given)
            first = answer(call, given)
            self.assertEqual(given, kept, call)
            self.assertEqual(answer(call, given), first, call)
            self.assertEqual(given, kept, call)
            self.assertEqual(answer(call, kept), first, call)
