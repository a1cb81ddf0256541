"""The names of the symmetries of patterns: (handles, turns, borders, crosscaps)."""

from flagfloors.basics import MOST_ORDER, border_round, border_sides, is_int, is_row
from flagfloors.classes import classes, is_mirrored, turn_of
from flagfloors.errors import NotName
from flagfloors.ratios import inverse_sum, plus, ratio, times
from flagfloors.surfaces import colours, surface_count

MOST_HANDLES = 60
MOST_CROSSCAPS = 180


def name_of(pattern):
    """Return the name of the symmetries of a pattern."""
    tints = colours(pattern)
    borders = _borders(pattern, tints)
    lacking = 2 - len(borders) - surface_count(pattern)
    if tints is None:
        return normal_name(0, _free_turns(pattern), borders, lacking)
    return normal_name(lacking // 2, _free_turns(pattern), borders, 0)


def normal_name(handles, turns, borders, crosscaps):
    """Return the name that such numbers and orders tell."""
    ordered = tuple(sorted(_above_1(turns)))
    rows = [_above_1(row) for row in borders]
    if crosscaps > 0:
        return (0, ordered, _unsensed(rows), crosscaps + 2 * handles)
    return (handles, ordered, min(_sensed(rows), _sensed([row[::-1] for row in rows])), 0)


def check_name(value):
    """Return the value if it is a name."""
    if not _has_form(value) or normal_name(value[0], value[1], value[2], value[3]) != value:
        raise NotName("a name has sorted turns, and borders in normal form")
    return value


def name_sum(name):
    """Return the sum of a name, which is the flag sum of each pattern that has it."""
    handles, turns, borders, crosscaps = name
    mirrored = [entry for row in borders for entry in row]
    whole = 4 - 4 * handles - 2 * crosscaps - 2 * len(borders) - 2 * len(turns) - len(mirrored)
    parts = plus(times((2, 1), inverse_sum(turns)), inverse_sum(mirrored))
    return plus(ratio(whole, 1), parts)


def _free_turns(pattern):
    """Return the turns of all classes that are not mirrored."""
    turns = []
    for i, j in ((0, 1), (1, 2), (0, 2)):
        for members in classes(pattern, i, j):
            if not is_mirrored(pattern, members[0], i, j):
                turns.append(turn_of(pattern, members[0], i, j))
    return turns


def _borders(pattern, tints):
    """Return the rows of turns of all borders, gone round in one sense if there are colours."""
    changes = pattern[:3]
    rows = []
    met = {}
    for flag, side in border_sides(changes):
        if (flag, side) in met:
            continue
        way = 2 if tints is None or tints[flag] == 0 else 1
        row = []
        for g, i, corner in border_round(changes, flag, side, (side + way) % 3):
            met[(g, i)] = True
            row.append(turn_of(pattern, g, i, 3 - i - corner))
        rows.append(row)
    return rows


def _above_1(orders):
    """Return the orders other than 1, which say nothing."""
    return tuple([order for order in orders if order != 1])


def _sensed(rows):
    """Return rows in normal form, each one read forward."""
    return tuple(sorted([_least_begun(row) for row in rows]))


def _unsensed(rows):
    """Return rows in normal form, each one read forward or backward."""
    return tuple(sorted([min(_least_begun(row), _least_begun(row[::-1])) for row in rows]))


def _least_begun(row):
    """Return the least row that comes of beginning a row at one of its places."""
    if not row:
        return row
    return min(row[k:] + row[:k] for k in range(len(row)))


def _has_form(value):
    """Tell whether a value has the entries of a name, each within its limits."""
    if not isinstance(value, tuple) or len(value) != 4:
        return False
    handles, turns, borders, crosscaps = value
    if not is_int(handles) or not 0 <= handles <= MOST_HANDLES:
        return False
    if not is_int(crosscaps) or not 0 <= crosscaps <= MOST_CROSSCAPS:
        return False
    return _is_order_row(turns) and isinstance(borders, tuple) and all(_is_order_row(b) for b in borders)


def _is_order_row(value):
    """Tell whether a value is a tuple of integers from 2 to the greatest order."""
    return is_row(value) and all(2 <= order <= MOST_ORDER for order in value)
