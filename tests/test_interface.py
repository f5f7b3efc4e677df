"""The interface of the document: names, arguments, and which of these are handed in by name alone."""

import importlib
import inspect
import unittest

from likedways.bounds import DASH, LIKED, MOST, STANDS

# For each function its arguments, and those behind the * with what is meant where they are left out.
FUNCTIONS = {
    "guilds": {"is_guild": (1, {}), "without": (2, {}), "dropped": (2, {})},
    "stands": {
        "is_stand": (2, {}), "first_stand": (1, {}), "choice": (3, {}), "made": (3, {}), "is_steady": (2, {}),
        "steady_stands": (1, {}),
    },
    "runs": {"led": (3, {"last": False}), "changes": (3, {}), "by_rounds": (1, {"houses": ()})},
    "orders": {
        "order_or_ring": (1, {}), "is_order": (2, {}), "is_ring": (2, {}), "first_order": (1, {}),
        "shortest_ring": (1, {}),
    },
    "growing": {"grown": (1, {}), "passed_over": (3, {})},
    "reached": {"reached": (1, {"most": STANDS})},
    "verdicts": {
        "is_endless": (3, {}), "is_calm": (2, {}), "verdict": (1, {"most": STANDS}), "rests": (1, {"most": STANDS}),
    },
    "tallies": {
        "tally": (1, {"most": STANDS}), "most_changes": (1, {"most": STANDS}), "longest_run": (1, {"most": STANDS}),
    },
    "drops": {"least_drop": (1, {"kept": ()}), "is_least": (3, {"kept": ()})},
    "nets": {"is_net": (1, {}), "worth": (2, {}), "guild_of_net": (1, {"rule": "short", "most": LIKED})},
    "trades": {"is_trade": (1, {}), "just_or_round": (1, {}), "is_fit": (2, {}), "guild_of_trade": (1, {})},
    "texts": {
        "way_text": (1, {"between": DASH, "none": "none"}), "stand_text": (1, {}), "guild_text": (1, {}),
        "read_guild": (1, {}),
    },
}
# For each class its methods, counted with self.
CLASSES = {
    ("posts", "Post"): {
        "__init__": (2, {"broken": ()}), "read": (3, {}), "cut": (3, {}), "mend": (3, {}), "like": (3, {}),
        "settle": (1, {"most": MOST}), "back": (1, {}), "again": (1, {}), "stand": (1, {}), "waiting": (1, {}),
        "heard": (3, {}), "broken": (1, {}), "likes": (1, {}), "__len__": (1, {}), "__str__": (1, {}),
        "__eq__": (2, {}), "play": (2, {"keep": False}), "diary": (1, {}), "open_plays": (1, {}),
    },
    ("desk", "Desk"): {"__init__": (1, {}), "say": (2, {})},
}


def arguments(function):
    """How many are handed in by their places, and what is meant where the others are left out."""
    told = inspect.signature(function).parameters.values()
    places = [one for one in told if one.kind is one.POSITIONAL_OR_KEYWORD and one.default is one.empty]
    names = {one.name: one.default for one in told if one.kind is one.KEYWORD_ONLY}
    return (len(places), names) if len(places) + len(names) == len(told) else None


class TestInterface(unittest.TestCase):
    def test_functions(self):
        for module, functions in FUNCTIONS.items():
            for name, told in functions.items():
                with self.subTest(module=module, name=name):
                    function = getattr(importlib.import_module("likedways." + module), name)
                    self.assertTrue(inspect.isfunction(function))
                    self.assertEqual(arguments(function), told)

    def test_methods_stand_in_the_class_itself(self):
        for (module, name), methods in CLASSES.items():
            kind = getattr(importlib.import_module("likedways." + module), name)
            self.assertTrue(inspect.isclass(kind))
            for method, told in methods.items():
                with self.subTest(name=name, method=method):
                    self.assertIn(method, vars(kind))
                    self.assertEqual(arguments(vars(kind)[method]), told)


if __name__ == "__main__":
    unittest.main()
