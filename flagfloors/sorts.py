"""What the motions of a laying tell by themselves: the name of the symmetries, and a form."""

from math import gcd

from flagfloors.motions import carried
from flagfloors.nametexts import read_name
from flagfloors.ratios import plus

TURNS_ALONE = {1: "o", 2: "2222", 3: "333", 4: "442", 6: "632"}


def sort_of(motions):
    """Return the name of the symmetries of a pattern of the plane."""
    turning = [matrix for matrix, _ in motions if _determinant(matrix) == 1]
    flips = [motion for motion in motions if _determinant(motion[0]) == -1]
    if not flips:
        return read_name(TURNS_ALONE[len(turning)])
    return read_name(_text_of(turning, flips))


def kept_form(motions):
    """Return the entries u, v, w of the form that all matrices of the motions keep."""
    u = 0
    v = 0
    w = 0
    for ((a, b), (c, d)), _ in motions:
        u += a * a + c * c
        v += a * b + c * d
        w += b * b + d * d
    return (u, v, w)


def _text_of(turning, flips):
    """Return the text of a name from the matrices that turn and the motions that do not."""
    many = len(turning)
    if many == 1:
        return _text_of_one(flips[0])
    if many == 2:
        if all(_is_centred(matrix) for matrix, _ in flips):
            return "2*22"
        mirrors = [motion for motion in flips if _is_mirror(motion)]
        return ("22x", "22*", "*2222")[len(mirrors)]
    if many == 3:
        return "*333" if _is_parted(turning, flips[0][0]) else "3*3"
    if many == 4:
        uncentred = [motion for motion in flips if not _is_centred(motion[0])]
        return "*442" if any(_is_mirror(motion) for motion in uncentred) else "4*2"
    return "*632"


def _text_of_one(motion):
    """Return the text of a name from the one motion that is not a translation."""
    if _is_centred(motion[0]):
        return "*x"
    return "**" if _is_mirror(motion) else "xx"


def _determinant(matrix):
    """Return the determinant of a matrix."""
    (a, b), (c, d) = matrix
    return a * d - b * c


def _axis(matrix):
    """Return a pair without a common divisor that a matrix with determinant -1 keeps."""
    (a, b), (c, d) = matrix
    # Twice done, the matrix does nothing: it keeps the sum of each pair and its image.
    x, y = (a + 1, c) if (a + 1, c) != (0, 0) else (b, d + 1)
    common = gcd(x, y)
    return (x // common, y // common)


def _is_centred(matrix):
    """Tell whether a pair and its image by a matrix with determinant -1 can add up to its axis."""
    (a, b), (c, d) = matrix
    # All such sums are made of those of (1, 0) and (0, 1), which are multiples of the axis.
    return gcd(gcd(a + 1, c), gcd(b, d + 1)) == 1


def _is_mirror(motion):
    """Tell whether some translations behind a motion with determinant -1 make it a mirror."""
    matrix, shift = motion
    if _is_centred(matrix):
        return True
    x, y = _axis(matrix)
    after = carried(matrix, shift)
    if x != 0:
        return plus(shift[0], after[0])[0] // x % 2 == 0
    return plus(shift[1], after[1])[0] // y % 2 == 0


def _is_parted(turning, matrix):
    """Tell whether the axis of a matrix is a pair minus its image by a turn of three."""
    (a, b), (c, d) = [turn for turn in turning if turn != ((1, 0), (0, 1))][0]
    x, y = _axis(matrix)
    # The pair minus its image is solved by the inverse of ((1 - a, -b), (-c, 1 - d)).
    area = (1 - a) * (1 - d) - b * c
    return ((1 - d) * x + b * y) % area == 0 and (c * x + (1 - a) * y) % area == 0
