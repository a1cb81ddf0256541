"""Patterns: tuples (s0, s1, s2, p, q), and the rules that they keep."""

from flagfloors.basics import MOST_FLAGS, MOST_ORDER, is_table, round_at, unreached
from flagfloors.errors import NotPattern


def breach(value):
    """Return the first rule that a value breaks and its place, or None for a valid pattern."""
    if not is_table(value, 5, MOST_FLAGS):
        return ("form", -1)
    s0, s1, s2, p, q = value
    # Each rule is looked at only behind those above it: the rounds, for one,
    # would never end where a change does not lead back.
    place = _change_place((s0, s1, s2))
    if place is not None:
        return ("change", place)
    place = _square_place(s0, s2)
    if place is not None:
        return ("square", place)
    place = _order_place(s0, s1, p)
    if place is not None:
        return ("tile", place)
    place = _order_place(s1, s2, q)
    if place is not None:
        return ("corner", place)
    place = unreached((s0, s1, s2))
    if place is not None:
        return ("whole", place)
    return None


def check_pattern(value):
    """Return the value if it is a valid pattern."""
    found = breach(value)
    if found is not None:
        raise NotPattern(found[0], found[1])
    return value


def size_of(pattern):
    """Return the number of flags."""
    return len(pattern[0])


def _change_place(changes):
    """Return the least flag from which some change does not lead there and back."""
    size = len(changes[0])
    for flag in range(size):
        for change in changes:
            after = change[flag]
            if not 0 <= after < size or change[after] != flag:
                return flag
    return None


def _square_place(s0, s2):
    """Return the least flag at which changes 0 and 2 do not commute."""
    for flag in range(len(s0)):
        if s0[s2[flag]] != s2[s0[flag]]:
            return flag
    return None


def _order_place(first, second, orders):
    """Return the least flag whose order does not suit its class of two changes."""
    for flag, order in enumerate(orders):
        if not 1 <= order <= MOST_ORDER:
            return flag
        if orders[first[flag]] != order or orders[second[flag]] != order:
            return flag
        if order % round_at(first, second, flag) != 0:
            return flag
    return None
