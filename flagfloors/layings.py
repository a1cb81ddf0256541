"""Layings: patterns of the plane laid so that each corner is in the middle of its neighbours.

A laying is a tuple (above, lead, steps, places).
"""

from math import gcd

from flagfloors.basics import MOST_FLAGS, is_row, is_table, spanning
from flagfloors.classes import class_numbers, classes
from flagfloors.ratios import minus, plus, ratio
from flagfloors.ringcovers import ring_cover
from flagfloors.surfaces import colours

ZERO = ((0, 1), (0, 1))


def laid(pattern):
    """Return a laying of a pattern."""
    above, lead = ring_cover(pattern)
    steps = steps_of(above)
    return (above, lead, steps, _places(above, steps))


def is_laying(pattern, value):
    """Tell whether a value is a laying of a pattern."""
    cover = ring_cover(pattern)
    if not _has_form(value, len(cover[1])):
        return False
    above, lead, steps, places = value
    if (above, lead) != cover:
        return False
    return _are_steps(above, steps) and _are_places(value)


def spans(laid):
    """Return what leads from the place of each flag to that of the other end of its edge."""
    above, _, steps, places = laid
    return tuple([
        _span(places[after], steps[flag], places[flag]) for flag, after in enumerate(above[0])
    ])


def steps_of(above):
    """Return steps for the flags of a pattern of a ring.

    A tree of edges joins all corners, and one of other edges joins all tiles. Two edges are
    in neither; with steps of 0 along the first tree, their steps determine the others.
    """
    s0, _, s2, _, _ = above
    corner = class_numbers(above, 1, 2)
    tile = class_numbers(above, 0, 1)
    # One flag of each edge, on the left of it as its tile is gone round by flags of colour 0.
    edges = [f for f, tint in enumerate(colours(above)) if tint == 0 and f < s0[s2[f]]]
    joined = _tree_edges(max(corner) + 1, [(corner[f], corner[s0[f]]) for f in edges])
    cut = [flag for number, flag in enumerate(edges) if number not in joined]
    ends = [(tile[f], tile[s2[f]]) for f in cut]
    tree = spanning(max(tile) + 1, ends, 0)
    within = {number: True for _, number in tree}
    first, second = [flag for number, flag in enumerate(cut) if number not in within]
    steps = [(0, 0)] * len(s0)
    _set_step(above, steps, first, (1, 0))
    _set_step(above, steps, second, (0, 1))
    for node, number in reversed(tree):
        flag = cut[number] if tile[cut[number]] == node else s0[s2[cut[number]]]
        x, y = _round_sum(above, steps, flag)
        _set_step(above, steps, flag, (-x, -y))
    return tuple(steps)


def _tree_edges(many, ends):
    """Return the numbers of the edges of a tree that joins many nodes, as the keys of a dict."""
    return {number: True for _, number in spanning(many, ends, 0)}


def _set_step(above, steps, flag, step):
    """Set the step of the edge of a flag."""
    x, y = step
    for side in (flag, above[2][flag]):
        steps[side] = step
        steps[above[0][side]] = (-x, -y)


def _round_sum(above, steps, flag):
    """Return the sum of the steps round the tile of a flag."""
    x, y = steps[flag]
    at = above[1][above[0][flag]]
    while at != flag:
        x += steps[at][0]
        y += steps[at][1]
        at = above[1][above[0][at]]
    return (x, y)


def _places(above, steps):
    """Return the places that put each corner in the middle of its neighbours."""
    corner = class_numbers(above, 1, 2)
    many = max(corner) + 1
    rows = [[0] * (many + 2) for _ in range(many)]
    for flag, after in enumerate(above[0]):
        row = rows[corner[flag]]
        row[corner[flag]] += 1
        row[corner[after]] -= 1
        row[many] += steps[flag][0]
        row[many + 1] += steps[flag][1]
    # Corner 0, that of flag 0, is at zero; its row follows from the others.
    found = [ZERO] + _solved([row[1:] for row in rows[1:]])
    return tuple([found[number] for number in corner])


def _solved(rows):
    """Return the solutions of equations, each a row of as many factors as rows and two sums.

    The factors are those of a grounded net, so that no factor becomes 0 where it is divided by.
    """
    reduced = list(rows)
    for at in range(len(rows)):
        pivot = reduced[at]
        reduced = [
            _cleared(row, pivot, at) if place != at and row[at] != 0 else row
            for place, row in enumerate(reduced)
        ]
    return [(ratio(row[-2], row[at]), ratio(row[-1], row[at])) for at, row in enumerate(reduced)]


def _cleared(row, pivot, at):
    """Return a row with a multiple of the pivot taken off, so that it has 0 at a place."""
    mixed = [pivot[at] * x - row[at] * y for x, y in zip(row, pivot)]
    common = 0
    for entry in mixed:
        common = gcd(common, entry)
    return [entry // common for entry in mixed]


def _span(end, step, begin):
    """Return end + step - begin for two places and a step between them."""
    return tuple([
        minus(plus(end[axis], (step[axis], 1)), begin[axis]) for axis in (0, 1)
    ])


def _has_form(value, size):
    """Tell whether a value has the kinds of values of a laying for some number of flags."""
    if not isinstance(value, tuple) or len(value) != 4:
        return False
    above, lead, steps, places = value
    if not is_table(above, 5, MOST_FLAGS) or not is_row(lead):
        return False
    if not isinstance(steps, tuple) or not isinstance(places, tuple):
        return False
    if len(steps) != size or len(places) != size:
        return False
    return all(_is_pair(step) for step in steps) and all(_is_place(place) for place in places)


def _is_pair(value):
    """Tell whether a value is a pair of integers."""
    return is_row(value) and len(value) == 2


def _is_place(value):
    """Tell whether a value is a pair of ratios."""
    if not isinstance(value, tuple) or len(value) != 2:
        return False
    return all(_is_pair(part) and part[1] > 0 and gcd(part[0], part[1]) == 1 for part in value)


def _are_steps(above, steps):
    """Tell whether steps keep the rules of a laying."""
    s0, _, s2, _, _ = above
    for flag, (x, y) in enumerate(steps):
        if steps[s0[flag]] != (-x, -y) or steps[s2[flag]] != (x, y):
            return False
    if any(_round_sum(above, steps, members[0]) != (0, 0) for members in classes(above, 0, 1)):
        return False
    return _make_all_pairs(_closed_sums(above, steps))


def _closed_sums(above, steps):
    """Return sums of steps along closed walks of which all such sums are made."""
    ways = [(i, flag) for i in (0, 1, 2) for flag in range(len(steps))]
    ends = [(flag, above[i][flag]) for i, flag in ways]
    # Changes 1 and 2 stay within a corner.
    lengths = [steps[flag] if i == 0 else (0, 0) for i, flag in ways]
    heads = [(0, 0)] * len(steps)
    for node, way in spanning(len(steps), ends, 0):
        begin, end = ends[way]
        sign = 1 if node == end else -1
        heads[node] = _moved(heads[begin + end - node], lengths[way], sign)
    return [
        _moved(_moved(heads[begin], lengths[way], 1), heads[end], -1)
        for way, (begin, end) in enumerate(ends)
    ]


def _moved(pair, step, sign):
    """Return a pair of integers moved along a step, or back along it if the sign is -1."""
    return (pair[0] + sign * step[0], pair[1] + sign * step[1])


def _make_all_pairs(pairs):
    """Tell whether all pairs of integers are sums of given pairs and their negatives."""
    first = (0, 0)
    rest = 0
    # All pairs so far are made of the first one and of (0, rest).
    for x, y in pairs:
        a, b = first
        while x != 0:
            times_in = a // x
            a, b, x, y = x, y, a - times_in * x, b - times_in * y
        first = (a, b)
        rest = gcd(rest, y)
    return abs(first[0]) == 1 and rest == 1


def _are_places(value):
    """Tell whether the places of a laying with good steps keep its rules."""
    above, _, _, places = value
    if places[0] != ZERO:
        return False
    for corner in classes(above, 1, 2):
        if any(places[flag] != places[corner[0]] for flag in corner):
            return False
    parts = spans(value)
    for corner in classes(above, 1, 2):
        total = ((0, 1), (0, 1))
        for flag in corner:
            total = (plus(total[0], parts[flag][0]), plus(total[1], parts[flag][1]))
        if total != ZERO:
            return False
    return True
