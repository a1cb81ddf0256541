"""Recipes one after another, and recipes that cut alike."""

from flagfloors.basics import reached
from flagfloors.errors import TooMany
from flagfloors.recipes import MOST_CELLS, inner_steps, side_crossed


def followed(first, second):
    """Return the recipe that does first one recipe and then another one."""
    if len(first[0]) * len(second[0]) > MOST_CELLS:
        raise TooMany(MOST_CELLS)
    return tuple([_step_within(first, step) for step in second])


def least_recipe(recipe):
    """Return the least of the recipes that the walks from all cells number."""
    inner = inner_steps(recipe)
    return min(_numbered_by(recipe, reached(inner, cell)) for cell in range(len(recipe[0])))


def are_same_recipes(a, b):
    """Tell whether two recipes cut every triangle in the same way."""
    return least_recipe(a) == least_recipe(b)


def _step_within(first, step):
    """Return a step of a recipe that is done within the cells of a first one."""
    many = len(step)
    within = []
    for cell in range(len(first[0])):
        for small, after in enumerate(step):
            if after >= 0:
                within.append(cell * many + after)
                continue
            # The sides of the cells are crossed as the first recipe's own steps go.
            beside = first[side_crossed(after)][cell]
            within.append(beside if beside < 0 else beside * many + small)
    return tuple(within)


def _numbered_by(recipe, listing):
    """Return the recipe whose cell k is the cell that stands at k in a listing."""
    numbers = {cell: number for number, cell in enumerate(listing)}
    return tuple([
        tuple([numbers.get(step[cell], step[cell]) for cell in listing]) for step in recipe
    ])
