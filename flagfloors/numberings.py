"""Numbering the flags of a pattern anew."""

from flagfloors.basics import reached


def renumbered(pattern, listing):
    """Return the pattern whose flag k is the flag that stands at k in a listing."""
    numbers = [0] * len(listing)
    for number, flag in enumerate(listing):
        numbers[flag] = number
    s0, s1, s2, p, q = pattern
    return (
        tuple([numbers[s0[f]] for f in listing]),
        tuple([numbers[s1[f]] for f in listing]),
        tuple([numbers[s2[f]] for f in listing]),
        tuple([p[f] for f in listing]),
        tuple([q[f] for f in listing]),
    )


def walk(pattern, flag):
    """Return the listing of all flags, from one flag on along the changes."""
    return reached(pattern[:3], flag)


def least(pattern):
    """Return the least of the patterns that the walks from all flags number."""
    return min(renumbered(pattern, walk(pattern, flag)) for flag in range(len(pattern[0])))
