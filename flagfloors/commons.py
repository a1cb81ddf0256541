"""Common covers of two patterns that have a common image."""

from flagfloors.basics import unfolded
from flagfloors.foldings import coarsest, folded
from flagfloors.leads import leads


def common_cover(a, b):
    """Return a pattern with its leads to both patterns, or None if they have no common image."""
    c = coarsest(a)
    d = coarsest(b)
    # An image by a coarsest folding cannot be folded further, so that a lead
    # from it to another such image is one to one, and is the only one.
    found = leads(folded(a, c), folded(b, d))
    if not found:
        return None
    return paired(a, b, (0, d.index(found[0][c[0]])))


def paired(a, b, first):
    """Return the pattern of the pairs of flags that are reached from a first one, and both leads."""
    def after(pair, i):
        """Return the pair to which change i leads both flags of a pair."""
        x, y = pair
        return (a[i][x], b[i][y])

    pattern, pairs = unfolded(a, first, after)
    to_a = tuple([x for x, _ in pairs])
    to_b = tuple([y for _, y in pairs])
    return (pattern, to_a, to_b)
