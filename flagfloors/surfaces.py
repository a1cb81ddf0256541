"""The surface of a pattern, made of a triangle for each flag."""

from flagfloors.basics import border_sides
from flagfloors.classes import classes
from flagfloors.ratios import inverse_sum, plus, ratio


def flag_sum(pattern):
    """Return the sum of 1/p + 1/q - 1/2 over all flags."""
    orders = pattern[3] + pattern[4]
    return plus(inverse_sum(orders), ratio(-len(pattern[3]), 2))


def surface_count(pattern):
    """Return the number of corners, minus that of sides, plus that of triangles of the surface."""
    return count_of(pattern[:3])


def colours(pattern):
    """Return a colour 0 or 1 for each flag, such that changes change it, or None."""
    found = [None] * len(pattern[0])
    found[0] = 0
    listing = [0]
    while listing:
        flag = listing.pop()
        for change in pattern[:3]:
            after = change[flag]
            if after == flag:
                continue
            if found[after] is None:
                found[after] = 1 - found[flag]
                listing.append(after)
            elif found[after] == found[flag]:
                return None
    return tuple(found)


def is_oriented(pattern):
    """Tell whether a pattern is two-sided and no change leads a flag to itself."""
    return colours(pattern) is not None and not border_sides(pattern[:3])


def count_of(changes):
    """Return the surface count of the triangles that three changes glue."""
    size = len(changes[0])
    corners = sum(len(classes(changes, i, j)) for i, j in ((0, 1), (1, 2), (0, 2)))
    # Each triangle has three sides; two of them make one where they are glued.
    sides = (3 * size + len(border_sides(changes))) // 2
    return corners - sides + size
