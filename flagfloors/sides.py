"""The sides of names: where the patterns with a name lie."""

from flagfloors.names import name_sum
from flagfloors.ratios import sign_of

PLANE_NAMES = (
    (0, (), (), 2),
    (0, (), ((),), 1),
    (0, (), ((), ()), 0),
    (0, (), ((2, 2, 2, 2),), 0),
    (0, (), ((2, 3, 6),), 0),
    (0, (), ((2, 4, 4),), 0),
    (0, (), ((3, 3, 3),), 0),
    (0, (2,), ((2, 2),), 0),
    (0, (2, 2), (), 1),
    (0, (2, 2), ((),), 0),
    (0, (2, 2, 2, 2), (), 0),
    (0, (2, 3, 6), (), 0),
    (0, (2, 4, 4), (), 0),
    (0, (3,), ((3,),), 0),
    (0, (3, 3, 3), (), 0),
    (0, (4,), ((2,),), 0),
    (1, (), (), 0),
)


def is_bad(name):
    """Tell whether patterns with a name are not cut out of a ball, a plane or a saddle."""
    handles, turns, borders, crosscaps = name
    if handles > 0 or crosscaps > 0:
        return False
    if not borders:
        return _is_lone(turns)
    return len(borders) == 1 and not turns and _is_lone(borders[0])


def side_of(name):
    """Return "bad", "ball", "plane" or "saddle"."""
    if is_bad(name):
        return "bad"
    sign = sign_of(name_sum(name))
    if sign == 0:
        return "plane"
    return "ball" if sign > 0 else "saddle"


def point_count(name):
    """Return in how many ways the symmetries of a plane name turn or mirror directions."""
    _, turns, borders, crosscaps = name
    entries = turns + tuple([entry for row in borders for entry in row])
    count = 2
    for entry, ways in ((2, 4), (3, 6), (4, 8), (6, 12)):
        if entry in entries:
            count = ways
    return count if borders or crosscaps > 0 else count // 2


def ball_count(name):
    """Return the number of symmetries of the whole ball."""
    top, bottom = name_sum(name)
    return 4 * bottom // top


def _is_lone(entries):
    """Tell whether entries are one, or two different ones."""
    return len(entries) == 1 or (len(entries) == 2 and entries[0] != entries[1])
