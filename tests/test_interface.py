"""Names and parameters as the interface has them."""

import importlib
import inspect
import unittest

FUNCTIONS = {
    "amounts": {
        "same": ("one", "other"),
        "below": ("one", "other"),
        "added": ("one", "other"),
        "taken": ("one", "other"),
        "multiplied": ("one", "other"),
        "divided": ("one", "other", "places"),
        "cut": ("amount", "places"),
        "rounded": ("amount", "places"),
        "amount_text": ("amount",),
        "read_amount": ("text",),
    },
    "pictures": {
        "unfolded": ("text",),
        "folded": ("text",),
        "is_picture": ("thing",),
        "kind_of": ("picture",),
        "room": ("picture",),
        "size_of": ("picture",),
    },
    "editing": {
        "edited": ("picture", "amount"),
        "read_edited": ("picture", "text"),
        "texts_in_all": ("picture",),
    },
    "moving": {
        "content_of": ("picture", "amount"),
        "amount_in": ("picture", "content"),
        "move": ("content", "picture", "other", "right"),
        "stored": ("picture", "amount", "nearest"),
        "blank": ("picture",),
    },
    "layouts": {
        "is_layout": ("thing",),
        "signs_in": ("layout",),
        "where": ("layout", "path"),
        "boxes": ("layout",),
    },
}
# Handed in by their names alone, with False if nothing is said.
BY_NAME = ("right", "nearest")


class InterfaceTest(unittest.TestCase):
    def test_parameters_bear_their_names(self):
        for module_name, functions in FUNCTIONS.items():
            module = importlib.import_module("boxmoves." + module_name)
            for name, parameters in functions.items():
                with self.subTest(module=module_name, name=name):
                    signature = inspect.signature(getattr(module, name))
                    self.assertEqual(tuple(signature.parameters), parameters)
                    for parameter in signature.parameters.values():
                        by_name = parameter.name in BY_NAME
                        self.assertIs(parameter.default, False if by_name else parameter.empty)
                        kind = parameter.KEYWORD_ONLY if by_name else parameter.POSITIONAL_OR_KEYWORD
                        self.assertEqual(parameter.kind, kind)


if __name__ == "__main__":
    unittest.main()
