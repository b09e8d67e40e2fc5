"""Names and parameters as the interface has them."""

import importlib
import inspect
import unittest

FUNCTIONS = {
    "amounts": {
        "same": ("one", "other"),
        "below": ("one", "other"),
        "added": ("one", "other"),
        "taken": ("one", "other"),
        "multiplied": ("one", "other"),
        "divided": ("one", "other", "places"),
        "cut": ("amount", "places"),
        "rounded": ("amount", "places"),
        "amount_text": ("amount",),
        "read_amount": ("text",),
    },
    "pictures": {
        "unfolded": ("text",),
        "folded": ("text",),
        "is_picture": ("thing",),
        "kind_of": ("picture",),
        "room": ("picture",),
        "size_of": ("picture",),
    },
    "editing": {
        "edited": ("picture", "amount"),
        "read_edited": ("picture", "text"),
        "texts_in_all": ("picture",),
    },
    "moving": {
        "content_of": ("picture", "amount"),
        "amount_in": ("picture", "content"),
        "move": ("content", "picture", "other", "right"),
        "stored": ("picture", "amount", "nearest"),
        "blank": ("picture",),
    },
    "layouts": {
        "is_layout": ("thing",),
        "signs_in": ("layout",),
        "where": ("layout", "path"),
        "boxes": ("layout",),
    },
    "reports": {
        "is_plan": ("thing",),
        "is_row": ("plan", "thing"),
        "breaks": ("plan", "rows"),
        "report": ("plan", "rows"),
        "in_order": ("plan", "rows"),
    },
    "writing": {
        "layout_text": ("layout",),
        "read_layout": ("text",),
        "page_text": ("plan", "page"),
    },
}
CLASSES = {
    "areas": {
        "Area": {
            "__init__": ("layout",),
            "get": ("path",),
            "amount": ("path",),
            "load": ("path", "text"),
            "give": ("path", "amount"),
            "store": ("path", "amount", "nearest"),
            "move": ("path", "other", "right"),
            "move_alike": ("path", "other"),
            "signs": (),
            "back": (),
            "again": (),
        },
    },
    "reports": {
        "Report": {
            "__init__": ("plan",),
            "put": ("row",),
            "close": (),
            "so_far": (),
        },
    },
}
# Handed in by their names alone, with False if nothing is said.
BY_NAME = ("right", "nearest")


class InterfaceTest(unittest.TestCase):
    def check(self, called, names):
        parameters = list(inspect.signature(called).parameters.values())
        self.assertEqual(tuple(parameter.name for parameter in parameters), names)
        for parameter in parameters:
            by_name = parameter.name in BY_NAME
            self.assertIs(parameter.default, False if by_name else parameter.empty)
            self.assertEqual(parameter.kind, parameter.KEYWORD_ONLY if by_name else parameter.POSITIONAL_OR_KEYWORD)

    def test_parameters_of_functions(self):
        for module_name, functions in FUNCTIONS.items():
            module = importlib.import_module("boxmoves." + module_name)
            for name, parameters in functions.items():
                with self.subTest(module=module_name, name=name):
                    self.check(getattr(module, name), parameters)

    def test_parameters_of_methods(self):
        for module_name, classes in CLASSES.items():
            module = importlib.import_module("boxmoves." + module_name)
            for class_name, methods in classes.items():
                for name, parameters in methods.items():
                    with self.subTest(class_name=class_name, name=name):
                        self.check(getattr(getattr(module, class_name), name), ("self",) + parameters)

    def test_what_python_itself_asks(self):
        area = importlib.import_module("boxmoves.areas").Area
        report = importlib.import_module("boxmoves.reports").Report
        for owner, names in ((area, ("__len__", "__eq__", "__str__")), (report, ("__len__",))):
            for name in names:
                self.assertIn(name, vars(owner))


if __name__ == "__main__":
    unittest.main()
