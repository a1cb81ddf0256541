"""The areas of laid tiles, and whether a laying has straight edges that do not cross."""

from flagfloors.classes import classes
from flagfloors.layings import ZERO, spans
from flagfloors.motions import cross
from flagfloors.ratios import plus, sign_of, times
from flagfloors.surfaces import colours


def tile_areas(laid):
    """Return the areas of the tiles of a laying."""
    above = laid[0]
    tints = colours(above)
    parts = spans(laid)
    areas = []
    for members in classes(above, 0, 1):
        sides = [parts[flag] for flag in _gone_round(above, tints, members, 0)]
        areas.append(_area(sides))
    return tuple(areas)


def is_straight(laid):
    """Tell whether the spans go once round at each corner, each next one turned the same way."""
    above = laid[0]
    tints = colours(above)
    parts = spans(laid)
    total = (0, 1)
    for area in tile_areas(laid):
        total = plus(total, area)
    for members in classes(above, 1, 2):
        row = [parts[flag] for flag in _gone_round(above, tints, members, 2)]
        if not _is_once_round(row, -sign_of(total)):
            return False
    return True


def _gone_round(above, tints, members, i):
    """Return the flags of a class from its least one of colour 0 on, by change i and then change 1."""
    first = [flag for flag in members if tints[flag] == 0][0]
    row = [first]
    at = above[1][above[i][first]]
    while at != first:
        row.append(at)
        at = above[1][above[i][at]]
    return row


def _area(sides):
    """Return the area of a polygon from its sides, one behind the other."""
    total = (0, 1)
    begin = ZERO
    for side in sides:
        end = (plus(begin[0], side[0]), plus(begin[1], side[1]))
        total = plus(total, cross(begin, end))
        begin = end
    return times((1, 2), total)


def _is_once_round(row, sign):
    """Tell whether at least three pairs go just once round zero, all turning as a sign tells."""
    if len(row) < 3:
        return False
    rounds = 0
    for at, pair in enumerate(row):
        ahead = row[at - 1]
        if sign_of(cross(ahead, pair)) != sign:
            return False
        # Each turn is less than a half one: each time round comes once from below into above.
        if _is_above(pair) and not _is_above(ahead):
            rounds += 1
    return rounds == 1


def _is_above(pair):
    """Tell whether a pair other than zero lies above zero, or beside it on the right."""
    x, y = pair
    return y[0] > 0 or (y[0] == 0 and x[0] > 0)
