"""The texts of patterns."""

from flagfloors.basics import DIGITS
from flagfloors.errors import NotText
from flagfloors.patterns import check_pattern

MOST_DIGITS = 4
GROUPS = 5


def written(pattern):
    """Return the text of a pattern."""
    groups = [" ".join([str(entry) for entry in row]) for row in pattern]
    return "; ".join(groups)


def read_pattern(text):
    """Return the pattern of a text."""
    place = _bad_place(text)
    if place is not None:
        raise NotText(place)
    return check_pattern(tuple([_read_row(group) for group in text.split("; ")]))


def _read_row(group):
    """Return the integers of a group."""
    return tuple([int(word) for word in group.split(" ")])


def _bad_place(text):
    """Return the length of the longest beginning that fits, or None if all of a text does."""
    group = 1
    word = ""
    wants_blank = False
    for place, sign in enumerate(text):
        if wants_blank:
            if sign != " ":
                return place
            wants_blank = False
        elif sign in DIGITS:
            if word == "0" or len(word) == MOST_DIGITS:
                return place
            word = word + sign
        elif word == "":
            return place
        elif sign == " ":
            word = ""
        elif sign == ";" and group < GROUPS:
            group += 1
            word = ""
            wants_blank = True
        else:
            return place
    if word == "" or group < GROUPS:
        return len(text)
    return None
