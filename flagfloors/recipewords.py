"""Recipes told by words."""

from flagfloors.errors import NotRecipe, NotText
from flagfloors.following import followed

WORDS = (
    "same", "dual", "middle", "raise", "thicken", "cut", "join", "expand", "bevel", "part",
)

RECIPES = {
    "same": ((-1,), (-2,), (-3,)),
    "dual": ((-3,), (-2,), (-1,)),
    "middle": ((-2, -2), (-3, -1), (1, 0)),
    "raise": ((-1, 2, 1), (1, 0, -1), (-3, -2, -2)),
    "thicken": ((1, 0, -1, -1), (-3, 2, 1, -2), (-2, -2, 3, 2)),
}

ROWS = {
    "cut": ("dual", "raise", "dual"),
    "join": ("middle", "dual"),
    "expand": ("middle", "middle"),
    "bevel": ("middle", "cut"),
    "part": ("bevel", "dual"),
}


def named_recipe(word):
    """Return the recipe of a word."""
    if word in RECIPES:
        return RECIPES[word]
    if word in ROWS:
        return _all_followed(ROWS[word])
    raise NotRecipe("word", -1)


def recipe_of_words(text):
    """Return the recipe that does the words of a text one after another."""
    words = text.split(" ") if text else []
    place = 0
    for word in words:
        if word not in WORDS:
            raise NotText(place)
        place += len(word) + 1
    return _all_followed(words)


def _all_followed(words):
    """Return the recipe that does words one after another."""
    recipe = RECIPES["same"]
    for word in words:
        recipe = followed(recipe, named_recipe(word))
    return recipe
