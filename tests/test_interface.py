"""Each name of the interface stands in its own file, with its own arguments."""

import importlib
import inspect
import unittest

INTERFACE = {
    "ratios": [
        "ratio(top, bottom)", "plus(a, b)", "minus(a, b)", "times(a, b)", "over(a, b)", "sign_of(a)",
    ],
    "patterns": ["breach(value)", "check_pattern(value)", "size_of(pattern)"],
    "classes": [
        "class_of(pattern, flag, i, j)", "classes(pattern, i, j)", "round_of(pattern, flag, i, j)",
        "order_of(pattern, flag, i, j)", "turn_of(pattern, flag, i, j)",
        "is_mirrored(pattern, flag, i, j)", "walked(pattern, flag, steps)",
    ],
    "numberings": ["renumbered(pattern, listing)", "walk(pattern, flag)", "least(pattern)"],
    "orders": ["reordered(pattern, word, flag, order)"],
    "glue": ["glued(tiles)"],
    "texts": ["written(pattern)", "read_pattern(text)"],
    "leads": ["leads(a, b)", "are_alike(a, b)", "selves(pattern)"],
    "foldings": [
        "check_folding(pattern, value)", "folded(pattern, folding)", "is_finer(a, b)", "met(a, b)",
        "joined(a, b)", "foldings(pattern)", "coarsest(pattern)",
    ],
    "commons": ["common_cover(a, b)"],
    "surfaces": [
        "flag_sum(pattern)", "surface_count(pattern)", "colours(pattern)", "is_oriented(pattern)",
    ],
    "names": [
        "name_of(pattern)", "normal_name(handles, turns, borders, crosscaps)", "check_name(value)",
        "name_sum(name)",
    ],
    "sides": ["is_bad(name)", "side_of(name)", "point_count(name)", "ball_count(name)"],
    "namefloors": ["pattern_of(name)"],
    "nametexts": ["written_name(name)", "read_name(text)"],
    "recipes": ["recipe_breach(value)", "check_recipe(value)"],
    "applying": ["applied(recipe, pattern)", "cell_counts(recipe, pattern)", "weights(pattern)"],
    "following": [
        "followed(first, second)", "least_recipe(recipe)", "are_same_recipes(a, b)",
    ],
    "recipewords": ["named_recipe(word)", "recipe_of_words(text)"],
    "covers": ["normal_cover(cover)", "check_cover(pattern, value)", "covers(pattern, sheets)"],
    "decks": ["decks(cover)", "is_regular(cover)", "cover_leads(a, b)"],
    "stacks": ["stacked(cover, upper)", "met_cover(a, b)"],
    "freed": ["is_free(pattern)", "oriented(pattern)"],
    "bodies": ["body(pattern)", "ball_parts(pattern)", "census(pattern, word)"],
    "ringcovers": ["ring_cover(pattern)"],
    "layings": ["laid(pattern)", "is_laying(pattern, value)", "spans(laid)"],
    "motions": ["motions(laid)", "then(first, second)"],
    "sorts": ["sort_of(motions)", "kept_form(motions)"],
    "areas": ["tile_areas(laid)", "is_straight(laid)"],
    "neighbours": ["tile_rings(pattern, flag, most)", "corner_rings(pattern, flag, most)"],
    "lists": ["frames(count)", "plane_patterns(count)"],
    "deeds": ["done(pattern, deed)", "all_done(pattern, deeds)"],
}
CLASSES = {
    "desks": {
        "Desk(pattern, *, most=20)": [
            "do(self, deed)", "undo(self)", "redo(self)", "past(self)", "ahead(self)",
            "run(self, deeds)", "twin(self)", "trial(self)",
        ],
    },
}


class Interface(unittest.TestCase):
    def test_functions(self):
        for file, heads in INTERFACE.items():
            module = importlib.import_module("flagfloors." + file)
            for head in heads:
                name = head.partition("(")[0]
                found = getattr(module, name)
                self.assertTrue(inspect.isfunction(found), head)
                self.assertEqual(found.__module__, module.__name__, head)
                self.assertEqual(name + str(inspect.signature(found)), head)

    def test_classes(self):
        for file, heads in CLASSES.items():
            module = importlib.import_module("flagfloors." + file)
            for head, methods in heads.items():
                name = head.partition("(")[0]
                found = getattr(module, name)
                self.assertTrue(inspect.isclass(found), head)
                self.assertEqual(found.__module__, module.__name__, head)
                self.assertEqual(name + str(inspect.signature(found)), head)
                for method in methods:
                    own = vars(found)[method.partition("(")[0]]
                    self.assertEqual(own.__name__ + str(inspect.signature(own)), method)

    def test_all_done_is_a_generator(self):
        module = importlib.import_module("flagfloors.deeds")
        self.assertTrue(inspect.isgeneratorfunction(module.all_done))
