"""The whole ball of a pattern."""

from flagfloors.applying import weights
from flagfloors.basics import MOST_FLAGS
from flagfloors.errors import NotBall, TooMany
from flagfloors.freed import oriented, rotation, unwound
from flagfloors.names import name_of
from flagfloors.ratios import times
from flagfloors.sides import ball_count, side_of
from flagfloors.stacks import stacked

# Permutations of orders 2 and 3 whose product has the order that leads to them.
SOLIDS = {
    3: ((1, 0, 3, 2), (1, 2, 0, 3)),
    4: ((1, 0, 2, 3), (0, 2, 3, 1)),
    5: ((1, 0, 3, 2, 4), (2, 1, 4, 3, 0)),
}


def body(pattern):
    """Return the cover by the whole ball, in normal form."""
    if _count(pattern) * len(pattern[0]) > MOST_FLAGS:
        raise TooMany(MOST_FLAGS)
    cover = oriented(pattern)
    return stacked(cover, unwound(cover[0], _turners(name_of(cover[0])[1])))


def ball_parts(pattern):
    """Return the numbers of tiles, edges and corners of the whole ball."""
    count = (_count(pattern), 1)
    return tuple([times(count, weight)[0] for weight in weights(pattern)])


def census(pattern, word):
    """Return pairs of an order and the number of tiles or corners of the whole ball that have it."""
    count = _count(pattern)
    orders = pattern[3] if word == "tile" else pattern[4]
    flags = {}
    for order in orders:
        flags[order] = flags.get(order, 0) + 1
    # A tile or a corner of the whole ball has two flags for each of its edges.
    return tuple([(order, count * flags[order] // (2 * order)) for order in sorted(flags)])


def _count(pattern):
    """Return the number of flags of the whole ball that stand over each flag."""
    name = name_of(pattern)
    if side_of(name) != "ball":
        raise NotBall("the name of the pattern has another side")
    return ball_count(name)


def _turners(turns):
    """Return permutations for all of the turns of a ball but the last one.

    Each has its turn as its order, and the product of two has the last turn as its order.
    """
    if len(turns) < 3:
        return [rotation(turn, 1) for turn in turns[:-1]]
    if turns[1] > 2:
        return list(SOLIDS[turns[2]])
    return [_flip(turns[2], 0), _flip(turns[2], 1)]


def _flip(many, total):
    """Return the permutation that exchanges the points of a ring that add up to a total.

    Two further points are exchanged too, so that it never does nothing.
    """
    ring = [(total - point) % many for point in range(many)]
    return tuple(ring + [many + 1, many])
