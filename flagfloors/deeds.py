"""Deeds: tuples that tell how a pattern is changed."""

from flagfloors.applying import applied
from flagfloors.basics import is_int
from flagfloors.bodies import body
from flagfloors.covers import covers
from flagfloors.errors import NotDeed
from flagfloors.foldings import check_folding, coarsest, folded
from flagfloors.freed import oriented
from flagfloors.numberings import least
from flagfloors.orders import reordered
from flagfloors.recipewords import recipe_of_words

# How many entries a deed has, by its word.
LENGTHS = {
    "recipe": 2, "tile": 3, "corner": 3, "image": 2, "coarsest": 1, "least": 1, "oriented": 1,
    "cover": 3, "body": 1,
}


def done(pattern, deed):
    """Return the pattern that a deed makes of a pattern."""
    if not _is_deed(pattern, deed):
        raise NotDeed("a deed has a known word, and what the word wants behind it")
    word = deed[0]
    if word == "recipe":
        return applied(recipe_of_words(deed[1]), pattern)
    if word == "tile" or word == "corner":
        return reordered(pattern, word, deed[1], deed[2])
    if word == "image":
        return folded(pattern, check_folding(pattern, deed[1]))
    if word == "coarsest":
        return folded(pattern, coarsest(pattern))
    if word == "least":
        return least(pattern)
    if word == "oriented":
        return oriented(pattern)[0]
    if word == "cover":
        return _covering(pattern, deed[1], deed[2])
    return body(pattern)[0]


def all_done(pattern, deeds):
    """Yield the patterns that deeds make, one after another."""
    at = pattern
    for deed in deeds:
        at = done(at, deed)
        yield at


def _is_deed(pattern, deed):
    """Tell whether a value is a deed for a pattern, as far as its form tells."""
    if not isinstance(deed, tuple) or not deed or not isinstance(deed[0], str):
        return False
    word = deed[0]
    if word not in LENGTHS or len(deed) != LENGTHS[word]:
        return False
    if word == "recipe":
        return isinstance(deed[1], str)
    if LENGTHS[word] < 3:
        return True
    if not is_int(deed[1]) or not is_int(deed[2]):
        return False
    if word == "cover":
        return deed[1] >= 1 and deed[2] >= 0
    return 0 <= deed[1] < len(pattern[0])


def _covering(pattern, sheets, number):
    """Return the pattern above the cover at a place among all covers with a number of sheets."""
    found = covers(pattern, sheets)
    if number >= len(found):
        raise NotDeed("no cover has this place")
    return found[number][0]
