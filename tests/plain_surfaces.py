"""Surfaces and names of patterns, found from triangles glued corner to corner."""

from fractions import Fraction
from functools import lru_cache

import samples

# Patterns glued out of few polygons: with mirrors, closed, glued both ways.
TILES = (
    ((1,),), ((1, -1),), ((1, 1),), ((1, 2),), ((1, 2, -1, -2),), ((1, 2, -1, 2),), ((1, 2, 3, 4),),
    ((1, 1, 2, 2, 3),), ((1, 2, 3), (1, -2, 4)), ((1, 2, 3), (3, 5, -5)), ((1,), (1,)),
    ((1,), (-1,)), ((1, 2), (3, -2, 4), (-4, 5, 3, 6, -1)), ((1, 2, 1, 2),),
    ((1, 2, -1, -2, 3, 4, -3, -4),), ((1, 2, -1, 3, 4, -3),), ((1, 1, 2, 3, 4, -2),),
    ((1, 2, -1, 3, 4, 5, -3, 6, 7, 8, 9, -6),), samples.CUBE_TILES, samples.TETRAHEDRON_TILES,
)


@lru_cache(maxsize=None)
def many_patterns():
    """Small patterns, glued ones, and glued ones with turns."""
    found = list(samples.small_patterns(4))
    for tiles in TILES:
        s0, s1, s2, p, q = samples.plain_glued(tiles)
        found.append((s0, s1, s2, p, q))
        for factors in ((2, 3), (1, 5, 2), (3, 1, 1, 4)):
            p = samples.orders_of(s0, s1, factors)
            q = samples.orders_of(s1, s2, factors[::-1])
            found.append((s0, s1, s2, p, q))
    return tuple(found)


def mixed(size, step):
    """A listing of flags that begins elsewhere and jumps; step has no divisor with size."""
    return tuple((step * k + size // 3) % size for k in range(size))


def parts(points, pairs):
    """Each point with the least point of its part, where pairs are put together."""
    lead = {point: point for point in points}
    changed = True
    while changed:
        changed = False
        for x, y in pairs:
            low = min(lead[x], lead[y])
            if lead[x] != low or lead[y] != low:
                lead[x] = lead[y] = low
                changed = True
    return lead


def corner_parts(changes):
    """The corners (flag, k) of all triangles, put together where sides are glued."""
    flags = range(len(changes[0]))
    pairs = [
        ((f, k), (changes[i][f], k)) for f in flags for i in range(3) for k in range(3) if k != i
    ]
    return parts([(f, k) for f in flags for k in range(3)], pairs)


def plain_count(changes):
    """Corners minus sides plus triangles."""
    flags = range(len(changes[0]))
    sides = {(min(f, changes[i][f]), i) for f in flags for i in range(3)}
    return len(set(corner_parts(changes).values())) - len(sides) + len(flags)


def plain_colours(changes):
    """The colours, out of a part that pairs of a flag and a colour make together."""
    flags = range(len(changes[0]))
    points = [(f, colour) for f in flags for colour in (0, 1)]
    pairs = [
        ((f, colour), (s[f], 1 - colour)) for f, colour in points for s in changes if s[f] != f
    ]
    lead = parts(points, pairs)
    if lead[(0, 0)] == lead[(0, 1)]:
        return None
    return tuple(0 if lead[(f, 0)] == lead[(0, 0)] else 1 for f in flags)


def plain_borders(changes, colours):
    """The borders: rows of border sides (flag, side), each with the end where one goes on.

    All run in the sense in which a triangle of colour 0 has its corners 0, 1, 2.
    """
    lead = corner_parts(changes)
    sides = [(f, i) for f in range(len(changes[0])) for i in range(3) if changes[i][f] == f]
    at_corner = {}
    for f, i in sides:
        for k in range(3):
            if k != i:
                at_corner.setdefault(lead[(f, k)], []).append((f, i, k))
    borders = []
    left = list(sides)
    while left:
        f, i = left[0]
        k = (i + 2) % 3 if colours is None or colours[f] == 0 else (i + 1) % 3
        row = []
        while (f, i) in left:
            left.remove((f, i))
            row.append((f, i, k))
            g, m, _ = [end for end in at_corner[lead[(f, k)]] if end != (f, i, k)][0]
            f, i, k = g, m, 3 - m - k
        borders.append(row)
    return borders


def plain_turn(pattern, flag, k):
    """The turn of the class at corner k of a flag's triangle."""
    i, j = [other for other in range(3) if other != k]
    order = {0: pattern[4][flag], 1: 2, 2: pattern[3][flag]}[k]
    return order // samples.plain_round(pattern[i], pattern[j], flag)


def all_begins(row):
    return [row[k:] + row[:k] for k in range(max(1, len(row)))]


def plain_form(rows, two_sided):
    """Borders in normal form."""
    if not two_sided:
        return tuple(sorted(min(all_begins(row) + all_begins(row[::-1])) for row in rows))
    return min(
        tuple(sorted(min(all_begins(row[::way])) for row in rows)) for way in (1, -1)
    )


def plain_name(pattern):
    """The name of a pattern."""
    changes = pattern[:3]
    colours = plain_colours(changes)
    borders = plain_borders(changes, colours)
    lead = corner_parts(changes)
    mirrored = {lead[(f, k)] for row in borders for f, i, _ in row for k in range(3) if k != i}
    free = [plain_turn(pattern, f, k) for f, k in set(lead.values()) - mirrored]
    rows = [tuple(plain_turn(pattern, f, k) for f, _, k in row) for row in borders]
    rows = [tuple(turn for turn in row if turn > 1) for row in rows]
    turns = tuple(sorted(turn for turn in free if turn > 1))
    lacking = 2 - len(borders) - plain_count(changes)
    if colours is None:
        return (0, turns, plain_form(rows, False), lacking)
    return (Fraction(lacking, 2), turns, plain_form(rows, True), 0)


def plain_sum(name):
    """The sum of a name, as a fraction."""
    handles, turns, borders, crosscaps = name
    total = Fraction(4 - 4 * handles - 2 * crosscaps - 2 * len(borders))
    total -= sum(2 * (1 - Fraction(1, t)) for t in turns)
    return total - sum(1 - Fraction(1, t) for row in borders for t in row)
