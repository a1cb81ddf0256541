"""Common covers of two patterns that have a common image."""

from flagfloors.basics import MOST_FLAGS
from flagfloors.errors import TooMany
from flagfloors.foldings import coarsest, folded
from flagfloors.leads import leads


def common_cover(a, b):
    """Return a pattern with its leads to both patterns, or None if they have no common image."""
    c = coarsest(a)
    d = coarsest(b)
    # An image by a coarsest folding cannot be folded further, so that a lead
    # from it to another such image is one to one, and is the only one.
    found = leads(folded(a, c), folded(b, d))
    if not found:
        return None
    first = (0, d.index(found[0][c[0]]))
    pairs = _reached_pairs(a, b, first)
    to_a = tuple([pair[0] for pair in pairs])
    to_b = tuple([pair[1] for pair in pairs])
    return (_pattern_of_pairs(a, b, pairs), to_a, to_b)


def _reached_pairs(a, b, first):
    """Return the pairs of flags that the changes lead to from the first one, as a walk lists them."""
    pairs = [first]
    listed = {first: True}
    at = 0
    while at < len(pairs):
        x, y = pairs[at]
        for change, other in zip(a[:3], b[:3]):
            after = (change[x], other[y])
            if after not in listed:
                if len(pairs) == MOST_FLAGS:
                    raise TooMany(MOST_FLAGS)
                listed[after] = True
                pairs.append(after)
        at += 1
    return pairs


def _pattern_of_pairs(a, b, pairs):
    """Return the pattern whose flags are pairs of flags; both have the same orders."""
    numbers = {pair: number for number, pair in enumerate(pairs)}
    changes = []
    for change, other in zip(a[:3], b[:3]):
        changes.append(tuple([numbers[(change[x], other[y])] for x, y in pairs]))
    p = tuple([a[3][x] for x, _ in pairs])
    q = tuple([a[4][x] for x, _ in pairs])
    return (changes[0], changes[1], changes[2], p, q)
