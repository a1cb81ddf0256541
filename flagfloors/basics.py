"""What several modules need: limits, kinds of values, and ways along changes."""

MOST_FLAGS = 240
MOST_ORDER = 9999


def is_int(value):
    """Tell whether a value is an integer; True and False are none."""
    return isinstance(value, int) and not isinstance(value, bool)


def is_row(value):
    """Tell whether a value is a tuple of integers."""
    return isinstance(value, tuple) and all(is_int(entry) for entry in value)


def reached(changes, flag):
    """Return the flags that changes lead to from a flag, listed as a walk lists them."""
    listing = [flag]
    listed = {flag: True}
    at = 0
    while at < len(listing):
        for change in changes:
            after = change[listing[at]]
            if after not in listed:
                listed[after] = True
                listing.append(after)
        at += 1
    return tuple(listing)


def round_at(first, second, flag):
    """Return how often one goes along two changes until the flag comes again."""
    times_gone = 1
    at = second[first[flag]]
    while at != flag:
        at = second[first[at]]
        times_gone += 1
    return times_gone
