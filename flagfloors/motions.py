"""Motions: what the symmetries of a pattern of the plane do with its laying.

A motion is a tuple (matrix, shift).
"""

from flagfloors.decks import decks
from flagfloors.layings import spans
from flagfloors.ratios import minus, over, plus, times


def motions(laid):
    """Return the motions of all decks of a laying, ascending."""
    above, lead, _, places = laid
    parts = spans(laid)
    first, second = _base(parts)
    found = []
    for deck in decks((above, lead)):
        matrix = _matrix(parts[first], parts[second], parts[deck[first]], parts[deck[second]])
        # Flag 0 is at zero, so that it is the shift alone that carries its place.
        found.append((matrix, _within_1(places[deck[0]])))
    return tuple(sorted(found))


def then(first, second):
    """Return the motion that does first one motion and then another one."""
    matrix, shift = first
    after, further = second
    (a, b), (c, d) = after
    (e, f), (g, h) = matrix
    both = ((a * e + b * g, a * f + b * h), (c * e + d * g, c * f + d * h))
    x, y = carried(after, shift)
    return (both, _within_1((plus(x, further[0]), plus(y, further[1]))))


def carried(matrix, pair):
    """Return the pair of ratios to which a matrix carries one."""
    x, y = pair
    (a, b), (c, d) = matrix
    return (
        plus(times((a, 1), x), times((b, 1), y)),
        plus(times((c, 1), x), times((d, 1), y)),
    )


def cross(a, b):
    """Return the determinant of two pairs of ratios."""
    return minus(times(a[0], b[1]), times(a[1], b[0]))


def _base(parts):
    """Return two flags whose spans do not lie in one line with zero."""
    first = 0
    while parts[first] == ((0, 1), (0, 1)):
        first += 1
    second = first
    while cross(parts[first], parts[second])[0] == 0:
        second += 1
    return (first, second)


def _matrix(a, b, after_a, after_b):
    """Return the matrix that carries two pairs of ratios to two others; it has integers."""
    area = cross(a, b)
    rows = []
    for axis in (0, 1):
        x = after_a[axis]
        y = after_b[axis]
        left = over(minus(times(x, b[1]), times(y, a[1])), area)
        right = over(minus(times(y, a[0]), times(x, b[0])), area)
        rows.append((left[0], right[0]))
    return tuple(rows)


def _within_1(shift):
    """Return a pair of ratios moved by integers to be at least 0 and less than 1."""
    return tuple([(top % bottom, bottom) for top, bottom in shift])
