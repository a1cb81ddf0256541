"""Leads: ways to carry one pattern onto another one."""

from flagfloors.numberings import walk


def leads(a, b):
    """Return all leads from a pattern to another one, ascending."""
    listing = walk(a, 0)
    found = []
    # A lead is determined by its first entry, so the leads ascend with it.
    for first in range(len(b[0])):
        lead = _lead(a, b, listing, first)
        if lead is not None:
            found.append(lead)
    return tuple(found)


def are_alike(a, b):
    """Tell whether two patterns differ in the numbering of their flags only."""
    return len(a[0]) == len(b[0]) and len(leads(a, b)) > 0


def selves(pattern):
    """Return the leads from a pattern to itself."""
    return leads(pattern, pattern)


def _lead(a, b, listing, first):
    """Return the lead that carries flag 0 of a to a flag of b, or None if there is none."""
    images = [None] * len(listing)
    images[0] = first
    # Along the walk from flag 0 each flag has its image before it is looked at.
    for flag in listing:
        image = images[flag]
        if a[3][flag] != b[3][image] or a[4][flag] != b[4][image]:
            return None
        for change, carried in zip(a[:3], b[:3]):
            after = change[flag]
            if images[after] is None:
                images[after] = carried[image]
            elif images[after] != carried[image]:
                return None
    return tuple(images)
