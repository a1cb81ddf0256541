"""[1]: no function changes its arguments, and the same call twice gives the same answer."""

import copy
import unittest

import samples
import test_interface
from flagfloors.applying import applied, cell_counts, weights
from flagfloors.areas import is_straight, tile_areas
from flagfloors.bodies import ball_parts, body, census
from flagfloors.classes import (
    class_of, classes, is_mirrored, order_of, round_of, turn_of, walked,
)
from flagfloors.commons import common_cover
from flagfloors.covers import check_cover, covers, normal_cover
from flagfloors.decks import cover_leads, decks, is_regular
from flagfloors.deeds import all_done, done
from flagfloors.desks import Desk
from flagfloors.errors import FlagError
from flagfloors.foldings import (
    check_folding, coarsest, folded, foldings, is_finer, joined, met,
)
from flagfloors.following import are_same_recipes, followed, least_recipe
from flagfloors.freed import is_free, oriented
from flagfloors.glue import glued
from flagfloors.layings import is_laying, laid, spans
from flagfloors.leads import are_alike, leads, selves
from flagfloors.lists import frames, plane_patterns
from flagfloors.motions import motions, then
from flagfloors.namefloors import pattern_of
from flagfloors.names import check_name, name_of, name_sum, normal_name
from flagfloors.nametexts import read_name, written_name
from flagfloors.neighbours import corner_rings, tile_rings
from flagfloors.numberings import least, renumbered, walk
from flagfloors.orders import reordered
from flagfloors.patterns import breach, check_pattern, size_of
from flagfloors.ratios import minus, over, plus, ratio, sign_of, times
from flagfloors.recipes import check_recipe, recipe_breach
from flagfloors.recipewords import named_recipe, recipe_of_words
from flagfloors.ringcovers import ring_cover
from flagfloors.sides import ball_count, is_bad, point_count, side_of
from flagfloors.sorts import kept_form, sort_of
from flagfloors.stacks import met_cover, stacked
from flagfloors.surfaces import colours, flag_sum, is_oriented, surface_count
from flagfloors.texts import read_pattern, written

TORUS = samples.TORUS
SQUARE = samples.MIRRORED_SQUARE
BAD_LISTS = [[0], [0], [0], [4], [3]]
TUPLE_OF_LISTS = ([0], [0], [0], [4], [3])
NAME = (0, (2, 3), ((), (2, 3, 4), (2, 5, 3)), 0)
MIDDLE = ((-2, -2), (-3, -1), (1, 0))
COVER = (TORUS, (0,) * 8)
SQUARE_TILES = ((0,), (0,), (0,), (4,), (4,))
LAYING = laid(SQUARE_TILES)
MOTIONS = motions(LAYING)
DEEDS = [("recipe", "dual"), ("cover", 2, 1), ("coarsest",)]


def listed_deeds(pattern, deeds):
    """The patterns that a row of deeds makes."""
    return tuple(all_done(pattern, deeds))


def desk_after(pattern, deeds):
    """What a desk tells behind a row of deeds, one of them taken back."""
    desk = Desk(pattern, most=2)
    many = desk.run(deeds)
    desk.undo()
    with desk.trial() as other:
        other.redo()
    return (many, desk.pattern, desk.past(), desk.ahead(), other.past(), desk.twin().ahead())


CALLS = [
    (ratio, 6, -4),
    (plus, (1, 2), (-1, 3)),
    (minus, (1, 2), (-1, 3)),
    (times, (1, 2), (-1, 3)),
    (over, (1, 2), (-1, 3)),
    (sign_of, (-1, 3)),
    (breach, TORUS),
    (breach, BAD_LISTS),
    (breach, TUPLE_OF_LISTS),
    (breach, {0: [1]}),
    (check_pattern, TORUS),
    (check_pattern, BAD_LISTS),
    (check_pattern, TUPLE_OF_LISTS),
    (size_of, TORUS),
    (class_of, SQUARE, 3, 2, 1),
    (classes, SQUARE, 2, 0),
    (round_of, SQUARE, 3, 1, 0),
    (order_of, SQUARE, 3, 1, 2),
    (turn_of, SQUARE, 3, 1, 2),
    (is_mirrored, SQUARE, 3, 1, 2),
    (walked, TORUS, 3, [0, 1, 2, 1]),
    (walked, TORUS, 3, (0, 1, 2, 1)),
    (renumbered, TORUS, (7, 6, 5, 4, 3, 2, 1, 0)),
    (walk, TORUS, 5),
    (least, TORUS),
    (reordered, SQUARE, "corner", 3, 6),
    (reordered, SQUARE, "corner", 3, [6]),
    (glued, ((1, 2, -1, -2),)),
    (glued, [[1, 2, -1, -2]]),
    (glued, ([1, 2], [3])),
    (written, TORUS),
    (read_pattern, "0; 0; 0; 4; 3"),
    (read_pattern, "0; 0; 0; 4"),
    (read_pattern, "0; 0; 0; 4; 0"),
    (leads, TORUS, TORUS),
    (leads, samples.ring(4, 8), samples.ring(2, 8)),
    (are_alike, TORUS, SQUARE),
    (selves, TORUS),
    (check_folding, TORUS, (0,) * 8),
    (check_folding, TORUS, [0] * 8),
    (folded, TORUS, (0,) * 8),
    (is_finer, (0, 1, 0, 1), (0, 0, 0, 0)),
    (met, (0, 1, 0, 1), (0, 0, 1, 1)),
    (joined, (0, 1, 2, 1), (0, 1, 1, 2)),
    (foldings, TORUS),
    (foldings, samples.ring(13)),
    (coarsest, TORUS),
    (common_cover, samples.ring(4, 12), samples.ring(6, 12)),
    (common_cover, samples.ring(11, 132), samples.ring(12, 132)),
    (common_cover, TORUS, samples.ring(6)),
    (flag_sum, SQUARE),
    (surface_count, SQUARE),
    (colours, SQUARE),
    (is_oriented, SQUARE),
    (name_of, SQUARE),
    (normal_name, 0, (3, 1, 2), ((4, 3, 2), (1,)), 2),
    (check_name, NAME),
    (check_name, [0, [], [], 0]),
    (check_name, (0, [3, 2], [[4, 3, 2]], 0)),
    (name_sum, NAME),
    (is_bad, NAME),
    (side_of, NAME),
    (point_count, (0, (2,), ((2, 2),), 0)),
    (ball_count, (0, (), ((2, 3, 5),), 0)),
    (pattern_of, NAME),
    (pattern_of, (60, (), (), 0)),
    (written_name, NAME),
    (read_name, "32*432*(17)"),
    (read_name, "32*432*(17"),
    (recipe_breach, MIDDLE),
    (recipe_breach, [[-1], [-2], [-3]]),
    (recipe_breach, ([-1], [-2], [-3])),
    (check_recipe, MIDDLE),
    (check_recipe, ([-1], [-2], [-3])),
    (applied, MIDDLE, SQUARE),
    (applied, MIDDLE, samples.ring(120)),
    (cell_counts, MIDDLE, SQUARE),
    (weights, SQUARE),
    (followed, MIDDLE, MIDDLE),
    (least_recipe, MIDDLE),
    (are_same_recipes, MIDDLE, ((-2, -2), (-1, -3), (1, 0))),
    (named_recipe, "part"),
    (named_recipe, "parts"),
    (recipe_of_words, "part expand"),
    (recipe_of_words, "part expand cut"),
    (recipe_of_words, "part  cut"),
    (normal_cover, COVER),
    (check_cover, SQUARE_TILES, COVER),
    (check_cover, SQUARE_TILES, [TORUS, [0] * 8]),
    (check_cover, SQUARE_TILES, (TORUS, [0] * 8)),
    (covers, SQUARE, 3),
    (covers, SQUARE, 4),
    (covers, SQUARE_TILES, 8),
    (decks, COVER),
    (is_regular, COVER),
    (cover_leads, COVER, (SQUARE_TILES, (0,))),
    (stacked, COVER, (TORUS, tuple(range(8)))),
    (met_cover, COVER, COVER),
    (met_cover, (samples.ring(11, 132), (0, 1) * 11), (samples.ring(12, 132), (0, 1) * 12)),
    (is_free, TORUS),
    (oriented, SQUARE),
    (oriented, samples.ring(61)),
    (body, samples.CUBE),
    (body, samples.ring(61)),
    (body, TORUS),
    (ball_parts, samples.CUBE),
    (ball_parts, TORUS),
    (census, samples.CUBE, "corner"),
    (ring_cover, SQUARE),
    (ring_cover, samples.CUBE),
    (laid, SQUARE),
    (laid, samples.CUBE),
    (is_laying, SQUARE_TILES, LAYING),
    (is_laying, SQUARE_TILES, [list(part) for part in LAYING]),
    (is_laying, SQUARE_TILES, (LAYING[0], LAYING[1], list(LAYING[2]), LAYING[3])),
    (is_laying, samples.CUBE, []),
    (spans, LAYING),
    (motions, LAYING),
    (then, MOTIONS[1], MOTIONS[4]),
    (sort_of, MOTIONS),
    (kept_form, MOTIONS),
    (tile_areas, LAYING),
    (is_straight, LAYING),
    (tile_rings, SQUARE, 3, 4),
    (tile_rings, samples.CUBE, 0, 12),
    (corner_rings, SQUARE, 3, 4),
    (frames, 3),
    (frames, 5),
    (plane_patterns, 2),
    (plane_patterns, 4),
    (done, SQUARE_TILES, ("recipe", "cut")),
    (done, SQUARE_TILES, ["recipe", "cut"]),
    (done, SQUARE_TILES, ("image", [0])),
    (listed_deeds, SQUARE_TILES, DEEDS),
    (listed_deeds, SQUARE_TILES, DEEDS + [["least"]]),
    (desk_after, SQUARE_TILES, DEEDS),
    (desk_after, SQUARE_TILES, DEEDS + [["least"]]),
    (desk_after, BAD_LISTS, DEEDS),
]


def answer(call, given):
    """What a call returns, or its error with the error's attributes."""
    try:
        return call(*given)
    except FlagError as error:
        return (error.__class__, vars(error))


class SameAnswers(unittest.TestCase):
    def test_each_call_twice(self):
        for call, *given in CALLS:
            kept = copy.deepcopy(given)
            first = answer(call, given)
            self.assertEqual(given, kept, call)
            self.assertEqual(answer(call, given), first, call)
            self.assertEqual(given, kept, call)
            self.assertEqual(answer(call, kept), first, call)

    def test_returned_kinds_of_values(self):
        for call, *given in CALLS:
            found = answer(call, given)
            if not (isinstance(found, tuple) and isinstance(found[0], type)):
                self.assertTrue(is_plain(found), call)

    def test_all_functions_of_the_interface_are_called(self):
        called = {call.__name__ for call, *_ in CALLS} | {"all_done"}
        heads = [head for rows in test_interface.INTERFACE.values() for head in rows]
        self.assertLessEqual({head.partition("(")[0] for head in heads}, called)


def is_plain(value):
    """Whether a value is an integer, a string, True, False, None, or a tuple of such."""
    if type(value) is tuple:
        return all(is_plain(part) for part in value)
    return value is None or type(value) in (int, str, bool)
