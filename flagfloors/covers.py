"""Covers of a pattern: tuples (above, lead) of a pattern and a lead from it."""

from flagfloors.basics import is_row
from flagfloors.classes import order_of
from flagfloors.errors import NotCover, TooMany
from flagfloors.leads import leads
from flagfloors.numberings import renumbered, walk
from flagfloors.patterns import breach

MOST_TO_COVER = 72


def normal_cover(cover):
    """Return the normal form of a cover."""
    above, lead = cover
    listings = [walk(above, flag) for flag, under in enumerate(lead) if under == 0]
    return min(
        (renumbered(above, listing), tuple([lead[flag] for flag in listing]))
        for listing in listings
    )


def check_cover(pattern, value):
    """Return the value if it is a cover of a pattern."""
    if not isinstance(value, tuple) or len(value) != 2:
        raise NotCover("a cover is a tuple of a pattern and a lead")
    above, lead = value
    if breach(above) is not None or not is_row(lead) or lead not in leads(above, pattern):
        raise NotCover("a cover has a pattern, and a lead from it to the pattern below")
    return value


def covers(pattern, sheets):
    """Return all covers with a number of sheets in normal form, ascending."""
    size = len(pattern[0])
    if sheets < 1:
        return ()
    if sheets == 1:
        return (normal_cover((pattern, tuple(range(size)))),)
    if size * sheets * sheets > MOST_TO_COVER:
        raise TooMany(MOST_TO_COVER)
    found = []
    # All tables are numbered by walks, so that each cover is met in normal form, too.
    for changes, lead in _tables(pattern, sheets):
        cover = _cover_of(pattern, changes, lead)
        if normal_cover(cover) == cover:
            found.append(cover)
    return tuple(sorted(found))


def _cover_of(pattern, changes, lead):
    """Return the cover that a full table makes."""
    p = tuple([pattern[3][under] for under in lead])
    q = tuple([pattern[4][under] for under in lead])
    s0, s1, s2 = [tuple(change) for change in changes]
    return ((s0, s1, s2, p, q), tuple(lead))


def _tables(pattern, sheets):
    """Return the changes and leads of all covers whose flags are numbered by a walk."""
    size = len(pattern[0]) * sheets
    full = []
    # A table has the flags over which a walk has come so far, and None where
    # a change is still open; its first open place is filled in each way.
    open_tables = [([[None] * size for _ in range(3)], [0])]
    while open_tables:
        changes, lead = open_tables.pop()
        place = _open_place(changes, len(lead))
        if place is not None:
            open_tables.extend(_filled(pattern, sheets, changes, lead, place))
        elif len(lead) == size:
            full.append((changes, lead))
    return full


def _open_place(changes, listed):
    """Return the first listed flag with an open change, and that change, or None."""
    for flag in range(listed):
        for i, change in enumerate(changes):
            if change[flag] is None:
                return (flag, i)
    return None


def _filled(pattern, sheets, changes, lead, place):
    """Return the tables that come of filling an open place and that may still become covers."""
    flag, i = place
    under = pattern[i][lead[flag]]
    afters = [g for g, other in enumerate(lead) if other == under and changes[i][g] is None]
    if lead.count(under) < sheets:
        afters.append(len(lead))
    tables = []
    for after in afters:
        filled = [list(change) for change in changes]
        filled[i][flag] = after
        filled[i][after] = flag
        more = lead if after < len(lead) else lead + [under]
        if all(_may_close(filled, flag, i, j, order_of(pattern, lead[flag], i, j))
               for j in (0, 1, 2) if j != i):
            tables.append((filled, more))
    return tables


def _may_close(changes, flag, i, j, order):
    """Tell whether the class of a flag can still be closed so that its round divides an order."""
    many, end = _way(changes[i], changes[j], flag)
    if end == "ring":
        return order % (many // 2) == 0
    more, other_end = _way(changes[j], changes[i], flag)
    size = many + 1 + more
    if end == "mirror" and other_end == "mirror":
        return order % size == 0
    # A class between mirrors has its size as its round, one that becomes a ring half of it.
    if end == "mirror" or other_end == "mirror":
        return size <= order
    return size <= 2 * order


def _way(first, second, flag):
    """Return how many flags two changes in turn lead to from a flag, and how the way ends."""
    many = 0
    at = flag
    while True:
        after = first[at]
        if after is None:
            return (many, "gap")
        if after == at:
            return (many, "mirror")
        many += 1
        if after == flag:
            return (many, "ring")
        at = after
        first, second = second, first
