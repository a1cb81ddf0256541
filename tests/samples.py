"""Patterns for the tests, made without the functions under test."""

from functools import lru_cache
from itertools import permutations, product

CUBE = ((0,), (0,), (0,), (4,), (3,))

# Two flags: change 0 exchanges them, changes 1 and 2 are mirrors.
SWAP_0 = ((1, 0), (0, 1), (0, 1), (4, 4), (3, 3))

# A square whose four sides lie at mirrors.
MIRRORED_SQUARE = (
    (1, 0, 3, 2, 5, 4, 7, 6),
    (7, 2, 1, 4, 3, 6, 5, 0),
    (0, 1, 2, 3, 4, 5, 6, 7),
    (4,) * 8,
    (4,) * 8,
)

# The torus of one square: no change leads a flag to itself.
TORUS = (
    (1, 0, 3, 2, 5, 4, 7, 6),
    (7, 2, 1, 4, 3, 6, 5, 0),
    (5, 4, 7, 6, 1, 0, 3, 2),
    (4,) * 8,
    (4,) * 8,
)


def ring(many, order=None):
    """The two flags of each side of a tile of many sides that all lie at mirrors."""
    size = 2 * many
    s0 = tuple(f ^ 1 for f in range(size))
    s1 = tuple((f - 1) % size if f % 2 == 0 else (f + 1) % size for f in range(size))
    s2 = tuple(range(size))
    p = (many if order is None else order,) * size
    return (s0, s1, s2, p, (2,) * size)


@lru_cache(maxsize=None)
def involutions(size):
    return tuple(
        row for row in permutations(range(size)) if all(row[row[f]] == f for f in range(size))
    )


def is_connected(changes):
    seen = {0}
    while True:
        more = seen | {s[f] for s in changes for f in seen}
        if more == seen:
            return len(seen) == len(changes[0])
        seen = more


def plain_class(first, second, flag):
    """The flags that two changes lead to, as a set that grows until it is full."""
    seen = {flag}
    while True:
        more = seen | {s[f] for s in (first, second) for f in seen}
        if more == seen:
            return tuple(sorted(seen))
        seen = more


def plain_round(first, second, flag):
    at = second[first[flag]]
    many = 1
    while at != flag:
        at = second[first[at]]
        many += 1
    return many


@lru_cache(maxsize=None)
def small_changes(size):
    """All triples of changes of patterns of a number of flags."""
    found = []
    for s0, s1, s2 in product(involutions(size), repeat=3):
        if all(s0[s2[f]] == s2[s0[f]] for f in range(size)) and is_connected((s0, s1, s2)):
            found.append((s0, s1, s2))
    return tuple(found)


def orders_of(first, second, factors):
    """Orders for all classes of two changes; the factors are taken one after another."""
    orders = [0] * len(first)
    many = 0
    for flag in range(len(first)):
        if orders[flag] == 0:
            for member in plain_class(first, second, flag):
                orders[member] = plain_round(first, second, flag) * factors[many % len(factors)]
            many += 1
    return tuple(orders)


@lru_cache(maxsize=None)
def small_patterns(most):
    """Patterns of up to a number of flags: all changes, with equal and with unlike turns."""
    found = []
    for size in range(1, most + 1):
        for s0, s1, s2 in small_changes(size):
            for factors in ((1,), (3, 2)):
                p = orders_of(s0, s1, factors)
                q = orders_of(s1, s2, factors[::-1])
                found.append((s0, s1, s2, p, q))
    return tuple(found)
