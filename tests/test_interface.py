"""The interface: each name is there, in its file, with its arguments."""

import importlib
import inspect
import unittest

FUNCTIONS = {
    "wearing": {
        "bare_wearing": "wardrobe", "put_on": "wardrobe wearing garment", "take_off": "wardrobe wearing garment",
        "dressed": "wardrobe order", "worn_in": "wearing", "outermost": "wardrobe wearing",
        "right_over": "wardrobe wearing garment", "seen_in": "wearing",
    },
    "orders": {"set_against": "wardrobe one other"},
    "rows": {"order_of": "wardrobe rows"},
    "standing": {
        "all_bare": "wardrobe players", "wearer": "standing garment", "deed_done": "wardrobe standing deed",
        "deeds_done": "wardrobe standing deeds",
    },
    "stays": {
        "may_stay": "wardrobe one other", "reasons_why": "wardrobe one other", "way_between": "wardrobe one other",
        "trouble_of": "prices deeds", "least_trouble": "wardrobe prices one other",
    },
    "beats": {"beat_done": "wardrobe standing beat", "beats_at": "wardrobe standing most"},
    "quickest": {"waits_between": "wardrobe one other", "quickest_change": "wardrobe one other"},
    "books": {"is_shown": "wardrobe standing wishes"},
    "slices": {"slices_of": "book"},
    "plans": {"goes_with": "book moment standing beats", "plan_from": "book moment standing", "plan_of": "book"},
    "others": {"needed_dressers": "book", "made_longer": "book moment more", "further_beats": "book moment"},
    "texts": {"read_prompt": "rows", "written_rows": "prompt"},
}
CLASSES = {
    "wardrobe": {"Wardrobe": "places covers"},
    "books": {"Book": "wardrobe prices start dressers beats scenes"},
    "prompts": {"Prompt": "places garments players book"},
    "desk": {"Desk": ""},
}
METHODS = {
    ("wardrobe", "Wardrobe"): {"spots": "self", "many": "self", "covers": "self garment", "meet": "self one other"},
    ("desk", "Desk"): {"say": "self row"},
}


def found(file, name):
    """What a file of the package holds under a name."""
    return getattr(importlib.import_module(f"quickchange.{file}"), name)


def arguments(thing):
    """The names of the arguments; each is plain and has to be given."""
    told = inspect.signature(thing).parameters.values()
    return " ".join(one.name for one in told if one.kind == one.POSITIONAL_OR_KEYWORD and one.default is one.empty)


class Interface(unittest.TestCase):
    def test_functions(self):
        for file, functions in FUNCTIONS.items():
            for name, told in functions.items():
                self.assertTrue(inspect.isfunction(found(file, name)), name)
                self.assertEqual(arguments(found(file, name)), told, name)
                self.assertEqual(found(file, name).__module__, f"quickchange.{file}")

    def test_classes(self):
        for file, classes in CLASSES.items():
            for name, told in classes.items():
                self.assertTrue(inspect.isclass(found(file, name)), name)
                self.assertEqual(arguments(found(file, name)), told, name)
                self.assertEqual(found(file, name).__module__, f"quickchange.{file}")

    def test_methods(self):
        for (file, name), methods in METHODS.items():
            for method, told in methods.items():
                self.assertEqual(arguments(getattr(found(file, name), method)), told, method)


if __name__ == "__main__":
    unittest.main()
