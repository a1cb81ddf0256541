"""Patterns for the tests, made without the functions under test."""

from functools import lru_cache
from itertools import permutations, product

CUBE = ((0,), (0,), (0,), (4,), (3,))

# Two flags: change 0 exchanges them, changes 1 and 2 are mirrors.
SWAP_0 = ((1, 0), (0, 1), (0, 1), (4, 4), (3, 3))

# A square whose four sides lie at mirrors.
MIRRORED_SQUARE = (
    (1, 0, 3, 2, 5, 4, 7, 6),
    (7, 2, 1, 4, 3, 6, 5, 0),
    (0, 1, 2, 3, 4, 5, 6, 7),
    (4,) * 8,
    (4,) * 8,
)

# The torus of one square: no change leads a flag to itself.
TORUS = (
    (1, 0, 3, 2, 5, 4, 7, 6),
    (7, 2, 1, 4, 3, 6, 5, 0),
    (5, 4, 7, 6, 1, 0, 3, 2),
    (4,) * 8,
    (4,) * 8,
)


def ring(many, order=None):
    """The two flags of each side of a tile of many sides that all lie at mirrors."""
    size = 2 * many
    s0 = tuple(f ^ 1 for f in range(size))
    s1 = tuple((f - 1) % size if f % 2 == 0 else (f + 1) % size for f in range(size))
    s2 = tuple(range(size))
    p = (many if order is None else order,) * size
    return (s0, s1, s2, p, (2,) * size)


@lru_cache(maxsize=None)
def involutions(size):
    return tuple(
        row for row in permutations(range(size)) if all(row[row[f]] == f for f in range(size))
    )


def is_connected(changes):
    seen = {0}
    while True:
        more = seen | {s[f] for s in changes for f in seen}
        if more == seen:
            return len(seen) == len(changes[0])
        seen = more


def plain_class(first, second, flag):
    """The flags that two changes lead to, as a set that grows until it is full."""
    seen = {flag}
    while True:
        more = seen | {s[f] for s in (first, second) for f in seen}
        if more == seen:
            return tuple(sorted(seen))
        seen = more


def plain_round(first, second, flag):
    at = second[first[flag]]
    many = 1
    while at != flag:
        at = second[first[at]]
        many += 1
    return many


@lru_cache(maxsize=None)
def small_changes(size):
    """All triples of changes of patterns of a number of flags."""
    found = []
    for s0, s1, s2 in product(involutions(size), repeat=3):
        if all(s0[s2[f]] == s2[s0[f]] for f in range(size)) and is_connected((s0, s1, s2)):
            found.append((s0, s1, s2))
    return tuple(found)


def orders_of(first, second, factors):
    """Orders for all classes of two changes; the factors are taken one after another."""
    orders = [0] * len(first)
    many = 0
    for flag in range(len(first)):
        if orders[flag] == 0:
            for member in plain_class(first, second, flag):
                orders[member] = plain_round(first, second, flag) * factors[many % len(factors)]
            many += 1
    return tuple(orders)


@lru_cache(maxsize=None)
def small_patterns(most):
    """Patterns of up to a number of flags: all changes, with equal and with unlike turns."""
    found = []
    for size in range(1, most + 1):
        for s0, s1, s2 in small_changes(size):
            for factors in ((1,), (3, 2)):
                p = orders_of(s0, s1, factors)
                q = orders_of(s1, s2, factors[::-1])
                found.append((s0, s1, s2, p, q))
    return tuple(found)


# The cube out of six squares: the rows of its labels go round each square.
CUBE_TILES = (
    (1, 2, 3, 4), (-1, 5, 9, -6), (-2, 6, 10, -7), (-3, 7, 11, -8), (-4, 8, 12, -5),
    (-12, -11, -10, -9),
)
TETRAHEDRON_TILES = ((1, 2, 3), (-1, 4, -5), (-2, 5, -6), (-3, 6, -4))


def plain_glued(tiles):
    """A pattern out of tiles that can be glued, from the ends of the edges."""
    sides = [(t, m, label) for t, tile in enumerate(tiles) for m, label in enumerate(tile)]
    flags = []
    for t, m, label in sides:
        flags.append((t, m, "come", "begin" if label > 0 else "end"))
        flags.append((t, m, "leave", "end" if label > 0 else "begin"))
    number = {flag[:3]: f for f, flag in enumerate(flags)}
    s0, s1, s2 = [], [], []
    for f, (t, m, way, end) in enumerate(flags):
        many = len(tiles[t])
        s0.append(number[(t, m, "leave" if way == "come" else "come")])
        if way == "come":
            s1.append(number[(t, (m - 1) % many, "leave")])
        else:
            s1.append(number[(t, (m + 1) % many, "come")])
        others = [
            g for g, (t2, m2, _, end2) in enumerate(flags)
            if abs(tiles[t2][m2]) == abs(tiles[t][m]) and (t2, m2) != (t, m) and end2 == end
        ]
        s2.append(others[0] if others else f)
    p = tuple(len(tiles[t]) for t, _, _, _ in flags)
    q = tuple(plain_round(s1, s2, f) for f in range(len(flags)))
    return (tuple(s0), tuple(s1), tuple(s2), p, q)


def path(size, order=2):
    """A row of flags that changes 0 and 1 lead along, with mirrors of change 0 or 1 at its ends."""
    s0 = tuple(f ^ 1 if f ^ 1 < size else f for f in range(size))
    s1 = tuple(f if f == 0 or ((f - 1) ^ 1) + 1 >= size else ((f - 1) ^ 1) + 1 for f in range(size))
    p = (plain_round(s0, s1, 0),) * size
    return (s0, s1, tuple(range(size)), p, (order,) * size)


def is_plain_lead(a, b, row):
    """Whether a row with one flag of b for each flag of a is a lead."""
    return all(
        b[i][row[f]] == row[a[i][f]] for i in range(3) for f in range(len(row))
    ) and all(b[i][row[f]] == a[i][f] for i in (3, 4) for f in range(len(row)))


@lru_cache(maxsize=None)
def partitions(size):
    """All rows of class numbers that are 0, 1, 2 and so on where they first occur."""
    rows = [()]
    for _ in range(size):
        rows = [row + (k,) for row in rows for k in range(max(row, default=-1) + 2)]
    return tuple(rows)


def is_plain_folding(pattern, row):
    """Whether a row of class numbers is carried by the changes, with equal orders."""
    flags = range(len(row))
    return all(
        pattern[3][f] == pattern[3][g] and pattern[4][f] == pattern[4][g]
        and all(row[s[f]] == row[s[g]] for s in pattern[:3])
        for f in flags for g in flags if row[f] == row[g]
    )
