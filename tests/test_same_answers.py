"""[1]: no function changes its arguments, and the same call twice gives the same answer."""

import copy
import unittest

import samples
from flagfloors.applying import applied, cell_counts, weights
from flagfloors.classes import (
    class_of, classes, is_mirrored, order_of, round_of, turn_of, walked,
)
from flagfloors.commons import common_cover
from flagfloors.covers import check_cover, covers, normal_cover
from flagfloors.decks import cover_leads, decks, is_regular
from flagfloors.errors import FlagError
from flagfloors.foldings import (
    check_folding, coarsest, folded, foldings, is_finer, joined, met,
)
from flagfloors.following import are_same_recipes, followed, least_recipe
from flagfloors.glue import glued
from flagfloors.leads import are_alike, leads, selves
from flagfloors.namefloors import pattern_of
from flagfloors.names import check_name, name_of, name_sum, normal_name
from flagfloors.nametexts import read_name, written_name
from flagfloors.numberings import least, renumbered, walk
from flagfloors.orders import reordered
from flagfloors.patterns import breach, check_pattern, size_of
from flagfloors.ratios import minus, over, plus, ratio, sign_of, times
from flagfloors.recipes import check_recipe, recipe_breach
from flagfloors.recipewords import named_recipe, recipe_of_words
from flagfloors.sides import ball_count, is_bad, point_count, side_of
from flagfloors.surfaces import colours, flag_sum, is_oriented, surface_count
from flagfloors.texts import read_pattern, written

TORUS = samples.TORUS
SQUARE = samples.MIRRORED_SQUARE
BAD_LISTS = [[0], [0], [0], [4], [3]]
TUPLE_OF_LISTS = ([0], [0], [0], [4], [3])
NAME = (0, (2, 3), ((), (2, 3, 4), (2, 5, 3)), 0)
MIDDLE = ((-2, -2), (-3, -1), (1, 0))
COVER = (TORUS, (0,) * 8)
SQUARE_TILES = ((0,), (0,), (0,), (4,), (4,))

CALLS = [
    (ratio, 6, -4),
    (plus, (1, 2), (-1, 3)),
    (minus, (1, 2), (-1, 3)),
    (times, (1, 2), (-1, 3)),
    (over, (1, 2), (-1, 3)),
    (sign_of, (-1, 3)),
    (breach, TORUS),
    (breach, BAD_LISTS),
    (breach, TUPLE_OF_LISTS),
    (breach, {0: [1]}),
    (check_pattern, TORUS),
    (check_pattern, BAD_LISTS),
    (check_pattern, TUPLE_OF_LISTS),
    (size_of, TORUS),
    (class_of, SQUARE, 3, 2, 1),
    (classes, SQUARE, 2, 0),
    (round_of, SQUARE, 3, 1, 0),
    (order_of, SQUARE, 3, 1, 2),
    (turn_of, SQUARE, 3, 1, 2),
    (is_mirrored, SQUARE, 3, 1, 2),
    (walked, TORUS, 3, [0, 1, 2, 1]),
    (walked, TORUS, 3, (0, 1, 2, 1)),
    (renumbered, TORUS, (7, 6, 5, 4, 3, 2, 1, 0)),
    (walk, TORUS, 5),
    (least, TORUS),
    (reordered, SQUARE, "corner", 3, 6),
    (reordered, SQUARE, "corner", 3, [6]),
    (glued, ((1, 2, -1, -2),)),
    (glued, [[1, 2, -1, -2]]),
    (glued, ([1, 2], [3])),
    (written, TORUS),
    (read_pattern, "0; 0; 0; 4; 3"),
    (read_pattern, "0; 0; 0; 4"),
    (read_pattern, "0; 0; 0; 4; 0"),
    (leads, TORUS, TORUS),
    (leads, samples.ring(4, 8), samples.ring(2, 8)),
    (are_alike, TORUS, SQUARE),
    (selves, TORUS),
    (check_folding, TORUS, (0,) * 8),
    (check_folding, TORUS, [0] * 8),
    (folded, TORUS, (0,) * 8),
    (is_finer, (0, 1, 0, 1), (0, 0, 0, 0)),
    (met, (0, 1, 0, 1), (0, 0, 1, 1)),
    (joined, (0, 1, 2, 1), (0, 1, 1, 2)),
    (foldings, TORUS),
    (foldings, samples.ring(13)),
    (coarsest, TORUS),
    (common_cover, samples.ring(4, 12), samples.ring(6, 12)),
    (common_cover, samples.ring(11, 132), samples.ring(12, 132)),
    (common_cover, TORUS, samples.ring(6)),
    (flag_sum, SQUARE),
    (surface_count, SQUARE),
    (colours, SQUARE),
    (is_oriented, SQUARE),
    (name_of, SQUARE),
    (normal_name, 0, (3, 1, 2), ((4, 3, 2), (1,)), 2),
    (check_name, NAME),
    (check_name, [0, [], [], 0]),
    (check_name, (0, [3, 2], [[4, 3, 2]], 0)),
    (name_sum, NAME),
    (is_bad, NAME),
    (side_of, NAME),
    (point_count, (0, (2,), ((2, 2),), 0)),
    (ball_count, (0, (), ((2, 3, 5),), 0)),
    (pattern_of, NAME),
    (pattern_of, (60, (), (), 0)),
    (written_name, NAME),
    (read_name, "32*432*(17)"),
    (read_name, "32*432*(17"),
    (recipe_breach, MIDDLE),
    (recipe_breach, [[-1], [-2], [-3]]),
    (recipe_breach, ([-1], [-2], [-3])),
    (check_recipe, MIDDLE),
    (check_recipe, ([-1], [-2], [-3])),
    (applied, MIDDLE, SQUARE),
    (applied, MIDDLE, samples.ring(120)),
    (cell_counts, MIDDLE, SQUARE),
    (weights, SQUARE),
    (followed, MIDDLE, MIDDLE),
    (least_recipe, MIDDLE),
    (are_same_recipes, MIDDLE, ((-2, -2), (-1, -3), (1, 0))),
    (named_recipe, "part"),
    (named_recipe, "parts"),
    (recipe_of_words, "part expand"),
    (recipe_of_words, "part expand cut"),
    (recipe_of_words, "part  cut"),
    (normal_cover, COVER),
    (check_cover, SQUARE_TILES, COVER),
    (check_cover, SQUARE_TILES, [TORUS, [0] * 8]),
    (check_cover, SQUARE_TILES, (TORUS, [0] * 8)),
    (covers, SQUARE, 3),
    (covers, SQUARE, 4),
    (covers, SQUARE_TILES, 8),
    (decks, COVER),
    (is_regular, COVER),
    (cover_leads, COVER, (SQUARE_TILES, (0,))),
]


def answer(call, given):
    """What a call returns, or its error with the error's attributes."""
    try:
        return call(*given)
    except FlagError as error:
        return (error.__class__, vars(error))


class SameAnswers(unittest.TestCase):
    def test_each_call_twice(self):
        for call, *given in CALLS:
            kept = copy.deepcopy(given)
            first = answer(call, given)
            self.assertEqual(given, kept, call)
            self.assertEqual(answer(call, given), first, call)
            self.assertEqual(given, kept, call)
            self.assertEqual(answer(call, kept), first, call)
