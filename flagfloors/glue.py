"""Gluing polygons to a pattern."""

from flagfloors.basics import MOST_SIDES, is_row, reached, round_at
from flagfloors.errors import NotGlued


def glued(tiles):
    """Return the pattern of a tuple of tiles, each the tuple of the labels of its sides."""
    _check_form(tiles)
    _check_labels(tiles)
    labels = [label for tile in tiles for label in tile]
    s0 = tuple([flag + 1 - 2 * (flag % 2) for flag in range(2 * len(labels))])
    s1 = _around(tiles)
    s2 = _across(labels)
    _check_connected(tiles, (s0, s1, s2))
    p = tuple([len(tile) for tile in tiles for _ in range(2 * len(tile))])
    q = tuple([round_at(s1, s2, flag) for flag in range(len(s1))])
    return (s0, s1, s2, p, q)


def _check_form(tiles):
    """Raise NotGlued if a value is not a tuple of tiles, or a tile has no sides."""
    if not isinstance(tiles, tuple) or not all(is_row(tile) for tile in tiles):
        raise NotGlued(-1, -1)
    if not tiles or sum(len(tile) for tile in tiles) > MOST_SIDES:
        raise NotGlued(-1, -1)
    for number, tile in enumerate(tiles):
        if not tile:
            raise NotGlued(number, -1)


def _check_labels(tiles):
    """Raise NotGlued if a label is 0 or stands at a third side."""
    counts = {}
    for number, tile in enumerate(tiles):
        for side, label in enumerate(tile):
            edge = abs(label)
            counts[edge] = counts.get(edge, 0) + 1
            if edge == 0 or counts[edge] > 2:
                raise NotGlued(number, side)


def _around(tiles):
    """Return change 1, which leads from a side to the side next to it in its tile."""
    change = []
    begin = 0
    for tile in tiles:
        many = len(tile)
        for side in range(many):
            change.append(2 * (begin + (side - 1) % many) + 1)
            change.append(2 * (begin + (side + 1) % many))
        begin += many
    return tuple(change)


def _across(labels):
    """Return change 2, which leads from a side to the side that it is glued to."""
    change = list(range(2 * len(labels)))
    sides = {}
    for side, label in enumerate(labels):
        other = sides.get(abs(label))
        if other is None:
            sides[abs(label)] = side
        else:
            # Sides that are run through in opposite ways meet with unlike flags.
            swap = 0 if labels[other] == label else 1
            for end in (0, 1):
                here = 2 * side + end
                there = 2 * other + (end + swap) % 2
                change[here] = there
                change[there] = here
    return tuple(change)


def _check_connected(tiles, changes):
    """Raise NotGlued if a tile is not reached from tile 0."""
    listed = {flag: True for flag in reached(changes, 0)}
    begin = 0
    for number, tile in enumerate(tiles):
        if 2 * begin not in listed:
            raise NotGlued(number, -1)
        begin += len(tile)
