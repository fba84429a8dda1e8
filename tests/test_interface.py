"""The names, arguments and places of the interface, as far as it has landed."""

import importlib
import inspect
import unittest

FUNCTIONS = {
    "wordworth.tables": {
        "times": "(one, other)",
        "row_times": "(row, table)",
        "unit": "(size)",
        "reduced": "(rows)",
        "rank": "(rows)",
        "solve": "(rows, wanted)",
        "inverse": "(table)",
    },
}

CLASSES = {
    "wordworth.errors": {
        "WordError": "(what=None)",
        "BadNumber": "(what=None)",
        "BadMachine": "(what=None)",
        "BadWord": "(what=None)",
        "BadStar": "(what=None)",
        "BadText": "(what=None)",
        "BadPaper": "(what=None)",
        "BadDeed": "(what=None)",
        "TooMany": "(what=None)",
        "Unknown": "(what=None)",
        "Taken": "(what=None)",
    },
    "wordworth.ratios": {
        "Ratio": "(top, bottom=1)",
    },
}

METHODS = {
    ("wordworth.ratios", "Ratio"): {
        "__init__": "(self, top, bottom=1)",
        "__add__": "(self, other)",
        "__sub__": "(self, other)",
        "__mul__": "(self, other)",
        "__neg__": "(self)",
        "__eq__": "(self, other)",
        "__bool__": "(self)",
        "is_less": "(self, other)",
        "over": "(self, other)",
        "text": "(self)",
    },
}


class InterfaceTest(unittest.TestCase):
    def test_functions_and_classes_are_defined_in_their_files(self):
        for listed in (FUNCTIONS, CLASSES):
            for module, names in listed.items():
                for name, arguments in names.items():
                    with self.subTest(module=module, name=name):
                        found = getattr(importlib.import_module(module), name)
                        self.assertEqual(found.__module__, module)
                        self.assertEqual(str(inspect.signature(found)), arguments)

    def test_methods_stand_in_the_class_itself(self):
        for (module, name), methods in METHODS.items():
            own = vars(getattr(importlib.import_module(module), name))
            for method, arguments in methods.items():
                with self.subTest(module=module, name=name, method=method):
                    self.assertEqual(str(inspect.signature(own[method])), arguments)


if __name__ == "__main__":
    unittest.main()
