"""Changing all flags of a pattern alike, by a recipe."""

from flagfloors.basics import MOST_FLAGS, MOST_ORDER
from flagfloors.classes import order_of
from flagfloors.errors import TooMany
from flagfloors.ratios import inverse_sum, ratio, times
from flagfloors.recipes import side_crossed, strip_of


def applied(recipe, pattern):
    """Return the pattern whose flags are the cells of a recipe in each flag of a pattern."""
    if len(recipe[0]) * len(pattern[0]) > MOST_FLAGS:
        raise TooMany(MOST_FLAGS)
    p = _orders(recipe, pattern, 0, 1)
    q = _orders(recipe, pattern, 1, 2)
    if max(p) > MOST_ORDER or max(q) > MOST_ORDER:
        raise TooMany(MOST_ORDER)
    s0, s1, s2 = [_change(step, pattern) for step in recipe]
    return (s0, s1, s2, p, q)


def cell_counts(recipe, pattern):
    """Return the weights of the changed pattern, however great it is."""
    return _counts(_orders(recipe, pattern, 0, 1), _orders(recipe, pattern, 1, 2))


def weights(pattern):
    """Return the numbers of tiles, edges and corners, each divided by its symmetries."""
    return _counts(pattern[3], pattern[4])


def _change(step, pattern):
    """Return the change that a step makes of the flags of the changed pattern."""
    many = len(step)
    change = []
    for flag in range(len(pattern[0])):
        for cell, after in enumerate(step):
            if after < 0:
                change.append(pattern[side_crossed(after)][flag] * many + cell)
            else:
                change.append(flag * many + after)
    return tuple(change)


def _orders(recipe, pattern, i, j):
    """Return the orders of the classes of two changes in the changed pattern."""
    strips = [strip_of(recipe, cell, i, j) for cell in range(len(recipe[0]))]
    return tuple([
        _strip_order(pattern, flag, many, crossed)
        for flag in range(len(pattern[0]))
        for many, crossed in strips
    ])


def _strip_order(pattern, flag, many, crossed):
    """Return the order that a strip of many cells gives in the triangle of a flag."""
    if not crossed:
        return many // 2
    if crossed[0] == crossed[1]:
        return many
    return many * order_of(pattern, flag, crossed[0], crossed[1])


def _counts(p, q):
    """Return the sums of 1/(2p), 1/4 and 1/(2q) over flags with orders p and q."""
    half = (1, 2)
    return (times(half, inverse_sum(p)), ratio(len(p), 4), times(half, inverse_sum(q)))
