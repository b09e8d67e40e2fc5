"""Names and parameters as the interface has them."""

import importlib
import inspect
import unittest

FUNCTIONS = {
    "amounts": {
        "same": ("one", "other"),
        "below": ("one", "other"),
        "added": ("one", "other"),
        "taken": ("one", "other"),
        "multiplied": ("one", "other"),
        "divided": ("one", "other", "places"),
        "cut": ("amount", "places"),
        "rounded": ("amount", "places"),
        "amount_text": ("amount",),
        "read_amount": ("text",),
    },
    "pictures": {
        "unfolded": ("text",),
        "folded": ("text",),
        "is_picture": ("thing",),
        "kind_of": ("picture",),
        "room": ("picture",),
        "size_of": ("picture",),
    },
}


class InterfaceTest(unittest.TestCase):
    def test_parameters_bear_their_names(self):
        for module_name, functions in FUNCTIONS.items():
            module = importlib.import_module("boxmoves." + module_name)
            for name, parameters in functions.items():
                with self.subTest(module=module_name, name=name):
                    signature = inspect.signature(getattr(module, name))
                    self.assertEqual(tuple(signature.parameters), parameters)
                    for parameter in signature.parameters.values():
                        self.assertIs(parameter.default, parameter.empty)
                        self.assertEqual(parameter.kind, parameter.POSITIONAL_OR_KEYWORD)


if __name__ == "__main__":
    unittest.main()
