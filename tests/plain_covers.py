"""Covers, found among all tables of flags with sheets."""

from functools import lru_cache
from itertools import permutations, product

import samples


def sheet_changes(change, sheets):
    """All changes of flags with sheets that lie over a change of flags."""
    pairs = [(f, g) for f, g in enumerate(change) if f <= g]
    ways = [
        list(permutations(range(sheets))) if f < g else samples.involutions(sheets)
        for f, g in pairs
    ]
    found = []
    for rows in product(*ways):
        made = [0] * (len(change) * sheets)
        for (f, g), row in zip(pairs, rows):
            for k in range(sheets):
                made[f * sheets + k] = g * sheets + row[k]
                made[g * sheets + row[k]] = f * sheets + k
        found.append(tuple(made))
    return found


def keeps_orders(first, second, orders):
    return all(
        orders[f] % samples.plain_round(first, second, f) == 0 for f in range(len(orders))
    )


@lru_cache(maxsize=None)
def plain_covers(pattern, sheets):
    """All covers in normal form, ascending."""
    lead = tuple(f for f in range(len(pattern[0])) for _ in range(sheets))
    p = tuple(pattern[3][f] for f in lead)
    q = tuple(pattern[4][f] for f in lead)
    ways = [sheet_changes(change, sheets) for change in pattern[:3]]
    found = set()
    for s0, s2 in product(ways[0], ways[2]):
        if all(s0[s2[f]] == s2[s0[f]] for f in range(len(lead))):
            for s1 in ways[1]:
                if keeps_orders(s0, s1, p) and keeps_orders(s1, s2, q):
                    if samples.is_connected((s0, s1, s2)):
                        found.add(plain_normal(((s0, s1, s2, p, q), lead)))
    return tuple(sorted(found))


def listed(above, flag):
    listing = [flag]
    for at in listing:
        for change in above[:3]:
            if change[at] not in listing:
                listing.append(change[at])
    return listing


def numbered(cover, listing):
    """A cover numbered anew."""
    above, lead = cover
    place = {flag: k for k, flag in enumerate(listing)}
    changes = tuple(tuple(place[s[f]] for f in listing) for s in above[:3])
    orders = tuple(tuple(row[f] for f in listing) for row in above[3:])
    return (changes + orders, tuple(lead[f] for f in listing))


def plain_normal(cover):
    """The normal form of a cover."""
    above, lead = cover
    begins = [f for f in range(len(lead)) if lead[f] == 0]
    return min(numbered(cover, listed(above, f)) for f in begins)


def plain_cover_leads(a, b):
    """All leads between covers, among the rows that keep the flags below."""
    over = {}
    for flag, under in enumerate(b[1]):
        over.setdefault(under, []).append(flag)
    rows = product(*[over[under] for under in a[1]])
    return tuple(sorted(row for row in rows if samples.is_plain_lead(a[0], b[0], row)))
