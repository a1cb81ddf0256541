"""Covers of a pattern that have fewer mirrors and turns than it has."""

from flagfloors.basics import border_sides, spanning, unfolded
from flagfloors.classes import class_numbers, classes, turn_of
from flagfloors.covers import normal_cover
from flagfloors.surfaces import colours

# From a flag of colour 0, going along change i first and then along change j goes round
# the classes of these pairs (i, j) all in one sense; the pair that begins with i is number i.
PAIRS = ((0, 1), (1, 2), (2, 0))


def is_free(pattern):
    """Tell whether no change leads a flag to itself and all turns are 1."""
    return not border_sides(pattern[:3]) and not _turning(pattern)


def oriented(pattern):
    """Return the cover by flags with colours that each change exchanges, in normal form."""
    def after(state, i):
        """Return the flag and the colour to which change i leads."""
        flag, colour = state
        return (pattern[i][flag], 1 - colour)

    # Of an oriented pattern, half of the flags with colours are reached: one sheet.
    above, states = unfolded(pattern, (0, 0), after)
    return normal_cover((above, tuple([flag for flag, _ in states])))


def unwound(pattern, turners):
    """Return the cover of an oriented pattern whose sheets are turned as one goes round classes.

    The surface of the pattern is a ball, or no turn is above 1. The turners are permutations
    of one row of points, one for each class with a turn above 1 but the last one, those with
    lesser turns first; going once round a class turns the sheets by its turner. Around the
    last class all turners are undone, in an order that is not said: there are at most two,
    or they commute. The sheets are the products of turners.
    """
    turns = _crossings(pattern, turners)
    same = tuple(range(len(turners[0]) if turners else 1))

    def after(state, i):
        """Return the flag and the permutation to which change i leads."""
        flag, sheet = state
        return (pattern[i][flag], _product(sheet, turns.get((flag, i), ())))

    above, states = unfolded(pattern, (0, same), after)
    return (above, tuple([flag for flag, _ in states]))


def rotation(many, by):
    """Return the permutation that moves each of many points in a ring by some places."""
    return tuple([(point + by) % many for point in range(many)])


def _turning(pattern):
    """Return (turn, pair, flag) for each class with a turn above 1, the lesser turns first."""
    found = []
    for pair, (i, j) in enumerate(PAIRS):
        for members in classes(pattern, i, j):
            turn = turn_of(pattern, members[0], i, j)
            if turn > 1:
                found.append((turn, pair, members[0]))
    return sorted(found)


def _crossings(pattern, turners):
    """Return how the sheets are turned where change i leads from a flag, by (flag, i).

    The surface is cut open along a tree of sides that joins all classes, and the sheets are
    turned where one crosses the tree. The tree is gone through from its ends to the last class.
    """
    nodes = _nodes(pattern)
    turning = [nodes[(flag, pair)] for _, pair, flag in _turning(pattern)]
    own = {node: turner for node, turner in zip(turning, turners)}
    sides = _cut_sides(pattern)
    ends = [(nodes[side], nodes[_second_end(side)]) for side in sides]
    tree = spanning(max(nodes.values()) + 1, ends, turning[-1] if turning else 0)
    found = {}
    for node, edge in reversed(tree):
        flag, i = sides[edge]
        pair = i
        if ends[edge][0] != node:
            flag = pattern[i][flag]
            pair = (i + 2) % 3
        around = _around(pattern, found, (flag, i), sum(PAIRS[pair]))
        turner = _product(_inverse(around), own.get(node, ()))
        if turner:
            found[(flag, i)] = turner
            found[(pattern[i][flag], i)] = _inverse(turner)
    return found


def _nodes(pattern):
    """Return a number for each class, by each of its flags with the number of its pair."""
    nodes = {}
    for pair, (i, j) in enumerate(PAIRS):
        begin = max(nodes.values(), default=-1) + 1
        for flag, number in enumerate(class_numbers(pattern, i, j)):
            nodes[(flag, pair)] = begin + number
    return nodes


def _second_end(side):
    """Return a flag and a pair for the class at the second end of a side.

    A side (flag, i) lies between the classes of the pairs i and i - 1. One crosses it from a
    flag of colour 0 to go round the first one of them, and back to go round the second one.
    """
    flag, i = side
    return (flag, (i + 2) % 3)


def _cut_sides(pattern):
    """Return the sides, told by flags of colour 0, that are not crossed by a tree of all flags."""
    tints = colours(pattern)
    sides = [(flag, i) for flag, tint in enumerate(tints) if tint == 0 for i in (0, 1, 2)]
    ends = [(flag, pattern[i][flag]) for flag, i in sides]
    crossed = {edge: True for _, edge in spanning(len(tints), ends, 0)}
    return [side for edge, side in enumerate(sides) if edge not in crossed]


def _around(pattern, found, side, both):
    """Return how sheets are turned on the way round a class from behind a side to that side."""
    turner = ()
    first, change = side
    flag = pattern[change][first]
    other = both - change
    while (flag, other) != side:
        turner = _product(turner, found.get((flag, other), ()))
        flag = pattern[other][flag]
        other = both - other
    return turner


def _product(a, b):
    """Return the permutation that does first a and then b; () stands for the one that does nothing."""
    if not a:
        return b
    return tuple([b[point] for point in a]) if b else a


def _inverse(a):
    """Return the permutation that undoes another one."""
    undone = list(a)
    for point, after in enumerate(a):
        undone[after] = point
    return tuple(undone)
