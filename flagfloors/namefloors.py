"""Patterns that are made for names."""

from flagfloors.basics import MOST_ORDER, MOST_SIDES
from flagfloors.classes import round_of
from flagfloors.errors import TooMany
from flagfloors.glue import glued
from flagfloors.orders import reordered


def pattern_of(name):
    """Return a pattern of one tile with a given name."""
    labels, wanted = _tile(name)
    if len(labels) > MOST_SIDES:
        raise TooMany(MOST_SIDES)
    pattern = glued((tuple(labels),))
    for flag, turn in wanted:
        order = turn * round_of(pattern, flag, 1, 2)
        if order > MOST_ORDER:
            raise TooMany(MOST_ORDER)
        pattern = reordered(pattern, "corner", flag, order)
    return pattern


def _tile(name):
    """Return the labels of the tile, and pairs of a flag and the turn that its corner gets."""
    handles, turns, borders, crosscaps = name
    labels = []
    wanted = []
    edge = 1
    for _ in range(handles):
        labels.extend([edge, edge + 1, -edge, -edge - 1])
        edge += 2
    for _ in range(crosscaps):
        labels.extend([edge, edge])
        edge += 1
    for turn in turns:
        wanted.append((_end_of(len(labels)), turn))
        labels.extend([edge, -edge])
        edge += 1
    for border in borders:
        mirrored = list(range(edge + 1, edge + 1 + max(1, len(border))))
        labels.append(edge)
        # The end of the last mirrored side lies in one corner with the end of the side ahead.
        for place, turn in enumerate(border):
            wanted.append((_end_of(len(labels) + place), turn))
        labels.extend(mirrored)
        labels.append(-edge)
        edge += 1 + len(mirrored)
    if not labels:
        labels.extend([edge, -edge])
    return labels, wanted


def _end_of(side):
    """Return the flag where one leaves a side of the tile."""
    return 2 * side + 1
