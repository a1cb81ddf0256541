"""Covers of patterns of the plane by patterns of a ring, which translations alone leave."""

from flagfloors.basics import MOST_FLAGS
from flagfloors.errors import NotPlane, TooMany
from flagfloors.freed import oriented, rotation, unwound
from flagfloors.names import name_of
from flagfloors.sides import point_count, side_of
from flagfloors.stacks import stacked


def ring_cover(pattern):
    """Return the free cover by a pattern of a ring with the least number of sheets."""
    name = name_of(pattern)
    if side_of(name) != "plane":
        raise NotPlane("the name of the pattern has another side")
    if point_count(name) * len(pattern[0]) > MOST_FLAGS:
        raise TooMany(MOST_FLAGS)
    cover = oriented(pattern)
    return stacked(cover, unwound(cover[0], _turners(name_of(cover[0]))))


def _turners(name):
    """Return rotations of directions for all turns but the last one."""
    many = point_count(name)
    return [rotation(many, many // turn) for turn in name[1][:-1]]
