"""Giving a tile or a corner another order."""

from flagfloors.basics import MOST_ORDER, is_int
from flagfloors.classes import class_of, round_of
from flagfloors.errors import NotOrder


def reordered(pattern, word, flag, order):
    """Return the pattern in which the tile or the corner of a flag has an order."""
    i = 0 if word == "tile" else 1
    if not is_int(order) or not 1 <= order <= MOST_ORDER:
        raise NotOrder("an order is an integer from 1 to 9999")
    if order % round_of(pattern, flag, i, i + 1) != 0:
        raise NotOrder("an order is a multiple of the round")
    orders = list(pattern[3 + i])
    for member in class_of(pattern, flag, i, i + 1):
        orders[member] = order
    return pattern[:3 + i] + (tuple(orders),) + pattern[4 + i:]
