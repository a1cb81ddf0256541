"""What several modules need: limits, kinds of values, ways along changes, and trees."""

from flagfloors.errors import TooMany

DIGITS = "0123456789"
MOST_FLAGS = 240
MOST_ORDER = 9999
MOST_SIDES = 120


def is_int(value):
    """Tell whether a value is an integer; True and False are none."""
    return isinstance(value, int) and not isinstance(value, bool)


def is_row(value):
    """Tell whether a value is a tuple of integers."""
    return isinstance(value, tuple) and all(is_int(entry) for entry in value)


def is_table(value, many, most):
    """Tell whether a value is a tuple of many rows of integers of one length from 1 to most."""
    if not isinstance(value, tuple) or len(value) != many:
        return False
    if not all(is_row(row) for row in value):
        return False
    size = len(value[0])
    return 1 <= size <= most and all(len(row) == size for row in value)


def reached(changes, flag):
    """Return the flags that changes lead to from a flag, listed as a walk lists them."""
    listing = [flag]
    listed = {flag: True}
    at = 0
    while at < len(listing):
        for change in changes:
            after = change[listing[at]]
            if after not in listed:
                listed[after] = True
                listing.append(after)
        at += 1
    return tuple(listing)


def unreached(changes):
    """Return the least flag that changes do not lead to from flag 0, or None."""
    listed = {flag: True for flag in reached(changes, 0)}
    for flag in range(len(changes[0])):
        if flag not in listed:
            return flag
    return None


def unfolded(pattern, first, after):
    """Return the pattern whose flags are the states reached from a first one, and these states.

    A state is a tuple that begins with a flag of the given pattern; `after(state, i)` is the
    state to which change i leads. States are numbered as a walk lists flags.
    """
    states = [first]
    numbers = {first: 0}
    changes = ([], [], [])
    at = 0
    while at < len(states):
        for i in (0, 1, 2):
            state = after(states[at], i)
            if state not in numbers:
                if len(states) == MOST_FLAGS:
                    raise TooMany(MOST_FLAGS)
                numbers[state] = len(states)
                states.append(state)
            changes[i].append(numbers[state])
        at += 1
    s0, s1, s2 = [tuple(change) for change in changes]
    p = tuple([pattern[3][state[0]] for state in states])
    q = tuple([pattern[4][state[0]] for state in states])
    return ((s0, s1, s2, p, q), tuple(states))


def spanning(many, ends, root):
    """Return a tree from a root on: pairs of a node and the number of the edge that reaches it.

    The nodes are the integers below many; ends has a pair of nodes for each edge. Each node
    but the root is listed behind the node from which it is reached.
    """
    beside = [[] for _ in range(many)]
    for edge, (x, y) in enumerate(ends):
        beside[x].append((y, edge))
        beside[y].append((x, edge))
    listing = [root]
    listed = {root: True}
    tree = []
    at = 0
    while at < len(listing):
        here = listing[at]
        for node, edge in beside[here]:
            if node not in listed:
                listed[node] = True
                listing.append(node)
                tree.append((node, edge))
        at += 1
    return tuple(tree)


def round_at(first, second, flag):
    """Return how often one goes along two changes until the flag comes again."""
    times_gone = 1
    at = second[first[flag]]
    while at != flag:
        at = second[first[at]]
        times_gone += 1
    return times_gone


def border_sides(changes):
    """Return the pairs of a flag and the number of a change that leads it to itself."""
    return [
        (flag, side)
        for flag in range(len(changes[0]))
        for side, change in enumerate(changes)
        if change[flag] == flag
    ]


def border_round(changes, flag, side, corner):
    """Return the border sides of a border from one on, each with the corner where one goes on."""
    first = (flag, side, corner)
    row = [first]
    at = _border_after(changes, first)
    while at != first:
        row.append(at)
        at = _border_after(changes, at)
    return row


def _border_after(changes, at):
    """Return the border side that one goes on to, with the corner where one goes on from it."""
    flag, side, corner = at
    both = 3 - corner
    along = both - side
    while changes[along][flag] != flag:
        flag = changes[along][flag]
        along = both - along
    return (flag, along, both - along)
