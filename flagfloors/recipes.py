"""Recipes: tuples (t0, t1, t2) that tell how each flag is cut into cells."""

from flagfloors.basics import border_round, border_sides, is_table, reached, unreached
from flagfloors.errors import NotRecipe
from flagfloors.surfaces import count_of

MOST_CELLS = 24

# The strips of steps 0 and 2 that may be: how many cells, and which sides their ends cross.
SQUARES = ((4, ()), (2, (0, 0)), (2, (1, 1)), (2, (2, 2)), (1, (0, 2)))


def recipe_breach(value):
    """Return the first rule that a value breaks and its place, or None for a valid recipe."""
    if not is_table(value, 3, MOST_CELLS):
        return ("form", -1)
    place = _step_place(value)
    if place is not None:
        return ("step", place)
    place = _square_place(value)
    if place is not None:
        return ("square", place)
    inner = inner_steps(value)
    place = unreached(inner)
    if place is not None:
        return ("whole", place)
    if count_of(inner) != 1:
        return ("disc", -1)
    if not _has_rim(value, inner):
        return ("rim", -1)
    return None


def check_recipe(value):
    """Return the value if it is a valid recipe."""
    found = recipe_breach(value)
    if found is not None:
        raise NotRecipe(found[0], found[1])
    return value


def inner_steps(steps):
    """Return steps with those that cross a side led back to their own cell."""
    return tuple([
        tuple([cell if after < 0 else after for cell, after in enumerate(step)]) for step in steps
    ])


def strip_of(recipe, cell, i, j):
    """Return how many cells the strip of a cell has, and the sides that its ends cross, ascending."""
    steps = (recipe[i], recipe[j])
    cells = reached(inner_steps(steps), cell)
    crossed = [side_crossed(step[c]) for c in cells for step in steps if step[c] < 0]
    return (len(cells), tuple(sorted(crossed)))


def side_crossed(after):
    """Return the side that a step below 0 crosses."""
    return -1 - after


def _step_place(recipe):
    """Return the least cell that some step leads neither there and back nor across a side."""
    size = len(recipe[0])
    for cell in range(size):
        for step in recipe:
            after = step[cell]
            if not -3 <= after < size or after == cell:
                return cell
            if after >= 0 and step[after] != cell:
                return cell
    return None


def _square_place(recipe):
    """Return the least cell of a strip of steps 0 and 2 that does not close to a square."""
    for cell in range(len(recipe[0])):
        if strip_of(recipe, cell, 0, 2) not in SQUARES:
            return cell
    return None


def _has_rim(recipe, inner):
    """Tell whether one border goes along one side, then another one, then the third one."""
    sides = border_sides(inner)
    if not sides:
        return False
    cell, side = sides[0]
    met = border_round(inner, cell, side, (side + 1) % 3)
    if len(met) < len(sides):
        return False
    crossed = [side_crossed(recipe[i][c]) for c, i, _ in met]
    # Each of three runs in a ring stands beside the two others, so that their sides all differ.
    begins = [at for at in range(len(crossed)) if crossed[at] != crossed[at - 1]]
    return len(begins) == 3
