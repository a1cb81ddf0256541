"""The texts of names."""

from flagfloors.basics import DIGITS
from flagfloors.errors import NotText
from flagfloors.names import MOST_CROSSCAPS, MOST_HANDLES, normal_name

NOTHING = "1"
BEGINS = "23456789(*"
LEAST_DIGITS = 2
MOST_DIGITS = 4


def written_name(name):
    """Return the text of a name."""
    handles, turns, borders, crosscaps = name
    text = "o" * handles + _written_entries(turns)
    for border in borders:
        text = text + "*" + _written_entries(border)
    text = text + "x" * crosscaps
    return text if text else NOTHING


def read_name(text):
    """Return the name of a text."""
    place = _bad_place(text)
    if place is not None:
        raise NotText(place)
    if text == NOTHING:
        return normal_name(0, (), (), 0)
    handles = text.count("o")
    crosscaps = text.count("x")
    groups = text[handles:len(text) - crosscaps].split("*")
    rows = [_read_entries(group) for group in groups]
    return normal_name(handles, rows[0], rows[1:], crosscaps)


def _written_entries(entries):
    """Return entries one behind the other, those of several digits in parentheses."""
    return "".join([str(entry) if entry < 10 else f"({entry})" for entry in entries])


def _read_entries(group):
    """Return the entries of a group."""
    first, *others = group.split("(")
    entries = [int(digit) for digit in first]
    for other in others:
        number, _, behind = other.partition(")")
        entries.append(int(number))
        entries.extend([int(digit) for digit in behind])
    return entries


def _bad_place(text):
    """Return the length of the longest beginning that fits, or None if all of a text does."""
    if text.startswith(NOTHING):
        return None if text == NOTHING else len(NOTHING)
    number = None
    handles = 0
    crosscaps = 0
    for place, sign in enumerate(text):
        if number is not None:
            if not _goes_on(number, sign):
                return place
            number = None if sign == ")" else number + sign
        elif sign == "o" and handles == place and handles < MOST_HANDLES:
            handles += 1
        elif sign == "x" and handles == 0 and crosscaps < MOST_CROSSCAPS:
            crosscaps += 1
        elif sign in BEGINS and crosscaps == 0:
            number = "" if sign == "(" else None
        else:
            return place
    if text == "" or number is not None:
        return len(text)
    return None


def _goes_on(number, sign):
    """Tell whether a sign may stand in parentheses behind the digits of a number."""
    if sign == ")":
        return len(number) >= LEAST_DIGITS
    if sign not in DIGITS or len(number) == MOST_DIGITS:
        return False
    return sign != "0" or number != ""
