"""Foldings of a pattern: its flags put into classes that the changes carry onto one another."""

from flagfloors.basics import is_row
from flagfloors.errors import NotFolding, TooMany

MOST_TO_FOLD = 24


def check_folding(pattern, value):
    """Return the value if it is a folding of a pattern."""
    if not is_row(value) or len(value) != len(pattern[0]):
        raise NotFolding(-1)
    place = _number_place(value)
    if place is None:
        place = _carried_place(pattern, value)
    if place is not None:
        raise NotFolding(place)
    return value


def folded(pattern, folding):
    """Return the image of a pattern, whose flags are the class numbers of a folding."""
    s0, s1, s2, p, q = pattern
    firsts = _firsts(folding)
    return (
        tuple([folding[s0[f]] for f in firsts]),
        tuple([folding[s1[f]] for f in firsts]),
        tuple([folding[s2[f]] for f in firsts]),
        tuple([p[f] for f in firsts]),
        tuple([q[f] for f in firsts]),
    )


def is_finer(a, b):
    """Tell whether flags with the same number in a have the same number in b."""
    numbers = {}
    for x, y in zip(a, b):
        if x not in numbers:
            numbers[x] = y
        elif numbers[x] != y:
            return False
    return True


def met(a, b):
    """Return the folding whose classes are the intersections of classes of two foldings."""
    return _numbered(list(zip(a, b)))


def joined(a, b):
    """Return the finest folding that two foldings are finer than."""
    firsts = _firsts(b)
    numbers = list(a)
    for flag, number in enumerate(b):
        numbers = _united(numbers, firsts[number], flag)
    return _numbered(numbers)


def foldings(pattern):
    """Return all foldings of a pattern, ascending."""
    size = len(pattern[0])
    if size > MOST_TO_FOLD:
        raise TooMany(MOST_TO_FOLD)
    found = {tuple(range(size)): True}
    # Patterns are connected, so the class of flag 0 determines a folding:
    # each one is joined of foldings that put just one flag to flag 0.
    for flag in range(1, size):
        narrow = _narrowest(pattern, flag)
        if narrow is not None:
            for folding in list(found):
                found[joined(folding, narrow)] = True
    return tuple(sorted(found))


def coarsest(pattern):
    """Return the folding that all foldings of a pattern are finer than."""
    s0, s1, s2, p, q = pattern
    numbers = _numbered(list(zip(p, q)))
    while True:
        parted = _numbered([
            (numbers[f], numbers[s0[f]], numbers[s1[f]], numbers[s2[f]]) for f in range(len(p))
        ])
        if parted == numbers:
            return numbers
        numbers = parted


def _number_place(value):
    """Return the least place whose number does not fit in with those ahead of it."""
    greatest = -1
    for place, number in enumerate(value):
        if not 0 <= number <= greatest + 1:
            return place
        greatest = max(greatest, number)
    return None


def _carried_place(pattern, value):
    """Return the least place that is not carried as the first one with its number."""
    firsts = _firsts(value)
    for place, number in enumerate(value):
        first = firsts[number]
        for row in pattern[3:]:
            if row[place] != row[first]:
                return place
        for change in pattern[:3]:
            if value[change[place]] != value[change[first]]:
                return place
    return None


def _firsts(folding):
    """Return the first place of each class number."""
    firsts = []
    for place, number in enumerate(folding):
        if number == len(firsts):
            firsts.append(place)
    return firsts


def _numbered(keys):
    """Return the folding that gives equal keys the same number."""
    numbers = {}
    for key in keys:
        if key not in numbers:
            numbers[key] = len(numbers)
    return tuple([numbers[key] for key in keys])


def _united(numbers, x, y):
    """Return the numbers with those of the class of y made those of the class of x."""
    kept = numbers[x]
    dropped = numbers[y]
    return [kept if number == dropped else number for number in numbers]


def _narrowest(pattern, flag):
    """Return the finest folding in which a flag has the number of flag 0, or None."""
    numbers = list(range(len(pattern[0])))
    pairs = [(0, flag)]
    while pairs:
        x, y = pairs.pop()
        if pattern[3][x] != pattern[3][y] or pattern[4][x] != pattern[4][y]:
            return None
        if numbers[x] != numbers[y]:
            numbers = _united(numbers, x, y)
            for change in pattern[:3]:
                pairs.append((change[x], change[y]))
    return _numbered(numbers)
