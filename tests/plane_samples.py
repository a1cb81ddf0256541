"""Patterns of the plane for the tests, and layings of them by other steps."""

from fractions import Fraction
from functools import lru_cache

import plain_surfaces
import samples
from flagfloors.applying import applied
from flagfloors.errors import TooMany
from flagfloors.layings import laid
from flagfloors.namefloors import pattern_of
from flagfloors.names import name_of
from flagfloors.numberings import renumbered
from flagfloors.orders import reordered
from flagfloors.recipewords import recipe_of_words
from flagfloors.sides import PLANE_NAMES

SQUARES = ((0,), (0,), (0,), (4,), (4,))
TRIANGLES = ((0,), (0,), (0,), (3,), (6,))
HEXAGONS = ((0,), (0,), (0,), (6,), (3,))

# How many directions the symmetries of a name turn or mirror into one another.
POINTS = {
    (1, (), (), 0): 1, (0, (2, 2, 2, 2), (), 0): 2, (0, (3, 3, 3), (), 0): 3,
    (0, (2, 4, 4), (), 0): 4, (0, (2, 3, 6), (), 0): 6, (0, (), ((2, 2, 2, 2),), 0): 4,
    (0, (), ((3, 3, 3),), 0): 6, (0, (), ((2, 4, 4),), 0): 8, (0, (), ((2, 3, 6),), 0): 12,
    (0, (4,), ((2,),), 0): 8, (0, (3,), ((3,),), 0): 6, (0, (2,), ((2, 2),), 0): 4,
    (0, (2, 2), ((),), 0): 4, (0, (2, 2), (), 1): 4, (0, (), ((), ()), 0): 2,
    (0, (), ((),), 1): 2, (0, (), (), 2): 2,
}

# Tori and Klein bottles with tiles and corners of one edge and of two edges.
ODD_TILES = (
    ((1, 2, -1, -2, 3), (-3,)), ((1, 2, -1, -2, 3, -3),), ((1, 2, -3, -2), (3, -1)),
    ((1, 2, -1, -2, 3, 4, -4, 5), (-3, -5)), ((1, 2, 3, -1, -3, -2),), ((1, 2, -1, 2),),
    ((1, 1, 2, 2, 3, -3),), ((1, 2, 3), (-1, 4, -4, -2, -3)), ((1, 2, -1, 2, 3), (-3,)),
)
RECIPES = ("dual", "middle", "raise", "thicken", "cut dual", "join", "expand", "bevel")


def mixed(pattern):
    """A pattern numbered anew."""
    size = len(pattern[0])
    step = [step for step in (7, 11, 13) if size % step][0]
    return renumbered(pattern, plain_surfaces.mixed(size, step))


def odd_patterns():
    """Patterns with tiles and corners of one edge and of two edges, some with turns there."""
    found = [samples.plain_glued(tiles) for tiles in ODD_TILES]
    # Balls of one tile, of two edges and of one, and half a ball of a tile of one edge, with turns.
    pillow = samples.plain_glued(((1, -1, 2, -2),))
    for word, flag, order in (("tile", 0, 8), ("corner", 1, 2), ("corner", 5, 2), ("corner", 0, 4)):
        pillow = reordered(pillow, word, flag, order)
    slice_of_6 = reordered(samples.plain_glued(((1, -1),)), "tile", 0, 4)
    slice_of_6 = reordered(reordered(slice_of_6, "corner", 1, 3), "corner", 0, 6)
    lone = reordered(samples.plain_glued(((1,),)), "tile", 0, 4)
    return found + [pillow, slice_of_6, reordered(lone, "corner", 0, 4)]


@lru_cache(maxsize=None)
def plane_patterns():
    """Patterns of all seventeen names, with at most 240 flags in their ring covers."""
    found = [SQUARES, TRIANGLES, HEXAGONS]
    found += [pattern for pattern in odd_patterns() if name_of(pattern) in POINTS]
    for number, name in enumerate(PLANE_NAMES):
        pattern = pattern_of(name)
        found += [pattern, mixed(pattern)]
        for word in (RECIPES[number % 8], RECIPES[(number + 3) % 8], RECIPES[(number + 6) % 8]):
            try:
                changed = applied(recipe_of_words(word), pattern)
            except TooMany:
                continue
            if len(changed[0]) * POINTS[name] <= 240:
                found.append(mixed(changed))
    return tuple(found)


@lru_cache(maxsize=None)
def layings():
    """Pairs of a pattern and a laying of it, those made by the program and some by other steps."""
    found = []
    for number, pattern in enumerate(plane_patterns()):
        made = laid(pattern)
        found.append((pattern, made))
        matrix = (((2, 1), (1, 1)), ((0, 1), (1, 0)), ((1, 0), (-3, 1)), ((-1, 2), (-1, 1)),
                  ((1000, 999), (1001, 1000)))[number % 5]
        found.append((pattern, other_laying(made, matrix, number)))
    return tuple(found)


def corners_of(above):
    """The corner of each flag, told by its least flag."""
    return [samples.plain_class(above[1], above[2], flag)[0] for flag in range(len(above[0]))]


def other_laying(made, matrix, seed):
    """A laying whose corners are moved by pairs of integers, seen through a matrix."""
    above, lead, steps, places = made
    corner = corners_of(above)
    moves = {c: ((c * 5 + seed) % 7 - 3, (c * 3 + 2 * seed) % 5 - 2) for c in corner}
    start = moves[corner[0]]
    moved_steps = []
    moved_places = []
    for f, after in enumerate(above[0]):
        here, there = moves[corner[f]], moves[corner[after]]
        step = [steps[f][k] + here[k] - there[k] for k in (0, 1)]
        place = [Fraction(*places[f][k]) + here[k] - start[k] for k in (0, 1)]
        moved_steps.append(seen(matrix, step))
        moved_places.append(as_ratios(seen(matrix, place)))
    return (above, lead, tuple(moved_steps), tuple(moved_places))


def seen(matrix, pair):
    """A pair through a matrix."""
    return tuple(row[0] * pair[0] + row[1] * pair[1] for row in matrix)


def as_ratios(pair):
    return tuple((Fraction(x).numerator, Fraction(x).denominator) for x in pair)


def as_fractions(pair):
    return tuple(Fraction(*x) for x in pair)


def plain_spans(made):
    """The spans of all flags, as fractions."""
    above, _, steps, places = made
    spots = [as_fractions(place) for place in places]
    return [
        tuple(spots[above[0][f]][k] + steps[f][k] - spots[f][k] for k in (0, 1))
        for f in range(len(steps))
    ]


def plain_round(above, flag, change):
    """The flags that one goes to from a flag by a change and then change 1, until it comes again."""
    row = [flag]
    while True:
        at = above[1][above[change][row[-1]]]
        if at == flag:
            return row
        row.append(at)
