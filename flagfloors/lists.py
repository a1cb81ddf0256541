"""Lists of all changes and of all patterns of the plane with few flags."""

from itertools import permutations, product

from flagfloors.basics import round_at, unreached
from flagfloors.classes import classes
from flagfloors.errors import TooMany
from flagfloors.numberings import least
from flagfloors.orders import reordered
from flagfloors.surfaces import flag_sum

MOST_TO_FRAME = 4
MOST_TO_LIST = 3
LEAST_ORDER = 3

# No name of the plane has other turns above 1.
PLANE_TURNS = (1, 2, 3, 4, 6)


def frames(count):
    """Return all changes of patterns with a number of flags, each lot once, ascending."""
    if count > MOST_TO_FRAME:
        raise TooMany(MOST_TO_FRAME)
    rows = [row for row in permutations(range(count)) if _leads_back(row)]
    found = {}
    for s0, s1, s2 in product(rows, rows, rows):
        if _may_be_changes(s0, s1, s2):
            blank = (0,) * count
            found[least((s0, s1, s2, blank, blank))[:3]] = True
    return tuple(sorted(found))


def plane_patterns(count):
    """Return all patterns of the plane with a number of flags and orders of at least 3, ascending."""
    if count > MOST_TO_LIST:
        raise TooMany(MOST_TO_LIST)
    found = {}
    for s0, s1, s2 in frames(count):
        p = tuple([round_at(s0, s1, flag) for flag in range(count)])
        q = tuple([round_at(s1, s2, flag) for flag in range(count)])
        for pattern in _with_turns((s0, s1, s2, p, q)):
            # A sum of zero is that of the plane: bad names have sums above zero.
            if min(pattern[3] + pattern[4]) >= LEAST_ORDER and flag_sum(pattern) == (0, 1):
                found[least(pattern)] = True
    return tuple(sorted(found))


def _leads_back(row):
    """Tell whether a permutation undoes itself."""
    return all(row[after] == place for place, after in enumerate(row))


def _may_be_changes(s0, s1, s2):
    """Tell whether changes 0 and 2 commute and all flags are reached from flag 0."""
    if any(s0[after] != s2[s0[flag]] for flag, after in enumerate(s2)):
        return False
    return len(s0) > 0 and unreached((s0, s1, s2)) is None


def _with_turns(pattern):
    """Return the patterns that come of giving all tiles and corners turns that the plane has."""
    found = [pattern]
    for word, i in (("tile", 0), ("corner", 1)):
        for members in classes(pattern, i, i + 1):
            flag = members[0]
            shortest = pattern[3 + i][flag]
            found = [
                reordered(one, word, flag, shortest * turn) for one in found for turn in PLANE_TURNS
            ]
    return found
