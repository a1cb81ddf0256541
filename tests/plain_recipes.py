"""Recipes and what they make, found step by step."""

import re
from functools import lru_cache
from itertools import product

import plain_surfaces
import samples

DUAL = ((-3,), (-2,), (-1,))
MIDDLE = ((-2, -2), (-3, -1), (1, 0))
RAISE = ((-1, 2, 1), (1, 0, -1), (-3, -2, -2))
THICKEN = ((1, 0, -1, -1), (-3, 2, 1, -2), (-2, -2, 3, 2))
SAME = ((-1,), (-2,), (-3,))

# Each word with the plain words that it does one after another.
BY_WORDS = {
    "same": [SAME],
    "dual": [DUAL],
    "middle": [MIDDLE],
    "raise": [RAISE],
    "thicken": [THICKEN],
    "cut": [DUAL, RAISE, DUAL],
    "join": [MIDDLE, DUAL],
    "expand": [MIDDLE, MIDDLE],
    "bevel": [MIDDLE, DUAL, RAISE, DUAL],
    "part": [MIDDLE, DUAL, RAISE, DUAL, DUAL],
}


def is_table(value):
    """Three tuples of one length from 1 to 24 of integers."""
    return (
        isinstance(value, tuple) and len(value) == 3
        and all(isinstance(row, tuple) for row in value)
        and len({len(row) for row in value}) == 1 and 1 <= len(value[0]) <= 24
        and all(type(entry) is int for row in value for entry in row)
    )


def inner(recipe):
    return tuple(tuple(c if d < 0 else d for c, d in enumerate(step)) for step in recipe)


def strip(recipe, cell, i, j):
    """The cells of a strip and the sides that its ends cross."""
    within = inner(recipe)
    cells = samples.plain_class(within[i], within[j], cell)
    return cells, sorted(-1 - recipe[k][c] for c in cells for k in (i, j) if recipe[k][c] < 0)


def is_square(recipe, cell):
    cells, ends = strip(recipe, cell, 0, 2)
    if len(cells) == 4:
        return not ends
    if len(cells) == 2:
        return bool(ends) and ends[0] == ends[1]
    return len(cells) == 1 and ends == [0, 2]


def has_rim(recipe):
    borders = plain_surfaces.plain_borders(inner(recipe), None)
    if len(borders) != 1:
        return False
    word = "".join("012"[-1 - recipe[i][c]] for c, i, _ in borders[0])
    form = re.compile("0+1+2+|0+2+1+|1+0+2+|1+2+0+|2+0+1+|2+1+0+")
    return any(form.fullmatch(begun) for begun in plain_surfaces.all_begins(word))


def plain_breach(value):
    """The first rule that a value breaks, with its place."""
    if not is_table(value):
        return ("form", -1)
    cells = range(len(value[0]))
    for c in cells:
        for step in value:
            d = step[c]
            if d not in (-1, -2, -3) and not (d in cells and d != c and step[d] == c):
                return ("step", c)
    for c in cells:
        if not is_square(value, c):
            return ("square", c)
    lead = plain_surfaces.parts(list(cells), [(c, s[c]) for c in cells for s in inner(value)])
    for c in cells:
        if lead[c] != 0:
            return ("whole", c)
    if plain_surfaces.plain_count(inner(value)) != 1:
        return ("disc", -1)
    return None if has_rim(value) else ("rim", -1)


@lru_cache(maxsize=None)
def steps(size):
    """All rows of steps of a number of cells that keep the rule "step"."""
    found = []
    for row in samples.involutions(size):
        still = [c for c in range(size) if row[c] == c]
        for sides in product((-1, -2, -3), repeat=len(still)):
            step = list(row)
            for c, side in zip(still, sides):
                step[c] = side
            found.append(tuple(step))
    return tuple(found)


@lru_cache(maxsize=None)
def small_recipes(size):
    """All tables of a number of cells that keep the rules "step" and "square"."""
    found = []
    for t0, t2 in product(steps(size), repeat=2):
        if all(is_square((t0, t0, t2), c) for c in range(size)):
            found += [(t0, t1, t2) for t1 in steps(size)]
    return tuple(found)


@lru_cache(maxsize=None)
def valid_recipes(most):
    """All valid recipes of up to a number of cells."""
    return tuple(
        recipe for size in range(1, most + 1) for recipe in small_recipes(size)
        if plain_breach(recipe) is None
    )


def plain_changes(recipe, pattern):
    """The changes of the changed pattern."""
    many = len(recipe[0])
    return tuple(
        tuple(
            f * many + step[c] if step[c] >= 0 else pattern[-1 - step[c]][f] * many + c
            for f in range(len(pattern[0])) for c in range(many)
        )
        for step in recipe
    )


def plain_orders(recipe, pattern, i, j):
    """The orders of the changed pattern, from strips."""
    found = []
    for f in range(len(pattern[0])):
        orders = {(0, 1): pattern[3][f], (1, 2): pattern[4][f], (0, 2): 2}
        for c in range(len(recipe[0])):
            cells, ends = strip(recipe, c, i, j)
            if not ends:
                found.append(len(cells) // 2)
            else:
                found.append(len(cells) * orders.get(tuple(ends), 1))
    return tuple(found)


def plain_applied(recipe, pattern):
    """The changed pattern, without limits."""
    orders = (plain_orders(recipe, pattern, 0, 1), plain_orders(recipe, pattern, 1, 2))
    return plain_changes(recipe, pattern) + orders


def recipe_numbered(recipe, listing):
    """The recipe whose cell k is the cell at k in a listing."""
    return tuple(
        tuple(step[c] if step[c] < 0 else listing.index(step[c]) for c in listing)
        for step in recipe
    )
