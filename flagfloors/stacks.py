"""Covers of covers, and covers of two covers together."""

from flagfloors.commons import paired
from flagfloors.covers import normal_cover


def stacked(cover, upper):
    """Return the cover of a pattern by the pattern above its cover, in normal form."""
    _, lead = cover
    above, upper_lead = upper
    return normal_cover((above, tuple([lead[flag] for flag in upper_lead])))


def met_cover(a, b):
    """Return the cover by pairs of flags that lie over one flag, in normal form."""
    above, lead = a
    other, other_lead = b
    pattern, to_a, _ = paired(above, other, (lead.index(0), other_lead.index(0)))
    return normal_cover((pattern, tuple([lead[flag] for flag in to_a])))
