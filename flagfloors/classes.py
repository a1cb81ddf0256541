"""Classes of two changes: tiles (0 and 1), corners (1 and 2) and edges (0 and 2)."""

from flagfloors.basics import reached, round_at


def class_of(pattern, flag, i, j):
    """Return the flags of the class of a flag, ascending."""
    return tuple(sorted(reached((pattern[i], pattern[j]), flag)))


def classes(pattern, i, j):
    """Return all classes of two changes, ascending."""
    found = []
    placed = {}
    for flag in range(len(pattern[i])):
        if flag not in placed:
            members = class_of(pattern, flag, i, j)
            found.append(members)
            for member in members:
                placed[member] = True
    return tuple(found)


def round_of(pattern, flag, i, j):
    """Return the round of the class of a flag."""
    return round_at(pattern[i], pattern[j], flag)


def order_of(pattern, flag, i, j):
    """Return the order of the class of a flag."""
    if i != 2 and j != 2:
        return pattern[3][flag]
    if i != 0 and j != 0:
        return pattern[4][flag]
    return 2


def turn_of(pattern, flag, i, j):
    """Return the turn of the class of a flag: its order divided by its round."""
    return order_of(pattern, flag, i, j) // round_of(pattern, flag, i, j)


def is_mirrored(pattern, flag, i, j):
    """Tell whether a change of the two leads some flag of the class to itself."""
    first = pattern[i]
    second = pattern[j]
    return any(first[k] == k or second[k] == k for k in class_of(pattern, flag, i, j))


def walked(pattern, flag, steps):
    """Return the flag that is reached by a row of changes, the first one first."""
    at = flag
    for step in steps:
        at = pattern[step][at]
    return at


def class_numbers(pattern, i, j):
    """Return the number of its class among all classes of two changes, for each flag."""
    numbers = [0] * len(pattern[i])
    for number, members in enumerate(classes(pattern, i, j)):
        for member in members:
            numbers[member] = number
    return tuple(numbers)
