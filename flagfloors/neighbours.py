"""Rings of neighbours around a tile or a corner of the full pattern."""

from flagfloors.bodies import body
from flagfloors.classes import class_numbers
from flagfloors.errors import NotPlane
from flagfloors.layings import steps_of
from flagfloors.names import name_of
from flagfloors.ringcovers import ring_cover
from flagfloors.sides import side_of


def tile_rings(pattern, flag, most):
    """Return how many tiles are just 0, 1, .. steps from neighbour to neighbour away from one."""
    s0, s1, s2, p, q = pattern
    # Where tiles and corners change places, so do the neighbours.
    return corner_rings((s2, s1, s0, q, p), flag, most)


def corner_rings(pattern, flag, most):
    """Return how many corners are just 0, 1, .. steps from neighbour to neighbour away from one."""
    above, lead, steps = _whole(pattern)
    corner = class_numbers(above, 1, 2)
    links = _links(above, corner, steps)
    ring = [(corner[lead.index(flag)], 0, 0)]
    listed = {ring[0]: True}
    counts = [1]
    for _ in range(most):
        ring = _next_ring(links, ring, listed)
        counts.append(len(ring))
    return tuple(counts)


def _whole(pattern):
    """Return a cover of which the full pattern is made by translations, with its steps."""
    side = side_of(name_of(pattern))
    if side == "plane":
        above, lead = ring_cover(pattern)
        return (above, lead, steps_of(above))
    if side == "ball":
        above, lead = body(pattern)
        return (above, lead, ((0, 0),) * len(lead))
    raise NotPlane("the pattern lies neither on the plane nor on a ball")


def _links(above, corner, steps):
    """Return, for each corner, the corners at the other ends of its edges with the steps there."""
    links = [{} for _ in range(max(corner) + 1)]
    for flag, after in enumerate(above[0]):
        links[corner[flag]][(corner[after], steps[flag])] = True
    return [list(row) for row in links]


def _next_ring(links, ring, listed):
    """Return the corners one step behind a ring that are not listed yet, and list them."""
    found = []
    for number, x, y in ring:
        for after, (right, up) in links[number]:
            place = (after, x + right, y + up)
            if place not in listed:
                listed[place] = True
                found.append(place)
    return found
