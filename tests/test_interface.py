"""The names, arguments and places of the interface."""

import importlib
import inspect
import unittest

FUNCTIONS = {
    "wordworth.tables": {
        "times": "(one, other)",
        "row_times": "(row, table)",
        "unit": "(size)",
        "reduced": "(rows)",
        "rank": "(rows)",
        "solve": "(rows, wanted)",
        "inverse": "(table)",
    },
    "wordworth.lattices": {
        "basic": "(rows)",
        "pieces": "(basis, row)",
    },
    "wordworth.words": {
        "comes_before": "(one, other)",
        "words_of": "(letters, length)",
    },
    "wordworth.mixing": {
        "plus": "(one, other)",
        "scaled": "(machine, number)",
        "by_places": "(one, other)",
        "in_row": "(one, other)",
        "star": "(machine)",
        "mixed": "(one, other)",
        "turned": "(machine)",
        "ahead": "(machine, word)",
        "after": "(machine, word)",
        "put": "(machine, words)",
        "single": "(letters, word, number)",
        "constant": "(letters, number)",
        "totals": "(machine)",
    },
    "wordworth.terms": {
        "empty_number": "(term)",
        "number_of": "(term, word)",
        "machine_of": "(term, letters)",
        "term_of": "(machine)",
    },
    "wordworth.texts": {
        "write_sum": "(term)",
        "read_sum": "(text)",
    },
    "wordworth.alike": {
        "compare": "(one, other)",
        "is_same_paper": "(one, other, paper)",
    },
    "wordworth.least": {
        "row_words": "(machine)",
        "column_words": "(machine)",
        "least": "(machine)",
        "is_corner": "(machine, rows, columns)",
        "carry": "(one, other)",
        "is_carry": "(one, other, table)",
    },
    "wordworth.company": {
        "nothing": "(machine, mix)",
        "basis_words": "(machine)",
        "coordinates": "(machine, word)",
        "product": "(machine, one, other)",
        "by_counts": "(machine)",
        "idle": "(machine)",
    },
    "wordworth.wholes": {
        "whole": "(machine)",
        "is_whole_paper": "(machine, words)",
        "whole_machine": "(machine)",
    },
    "wordworth.rests": {
        "rests": "(machine, modulus)",
    },
    "wordworth.finite": {
        "finite": "(machine)",
    },
}

CLASSES = {
    "wordworth.errors": {
        "WordError": "(what=None)",
        "BadNumber": "(what=None)",
        "BadMachine": "(what=None)",
        "BadWord": "(what=None)",
        "BadStar": "(what=None)",
        "BadText": "(what=None)",
        "BadPaper": "(what=None)",
        "BadDeed": "(what=None)",
        "TooMany": "(what=None)",
        "Unknown": "(what=None)",
        "Taken": "(what=None)",
    },
    "wordworth.ratios": {
        "Ratio": "(top, bottom=1)",
    },
    "wordworth.machines": {
        "Machine": "(letters, start, steps, end)",
    },
    "wordworth.learner": {
        "Learner": "(letters)",
    },
    "wordworth.house": {
        "House": "(letters)",
    },
}

METHODS = {
    ("wordworth.ratios", "Ratio"): {
        "__init__": "(self, top, bottom=1)",
        "__add__": "(self, other)",
        "__sub__": "(self, other)",
        "__mul__": "(self, other)",
        "__neg__": "(self)",
        "__eq__": "(self, other)",
        "__bool__": "(self)",
        "is_less": "(self, other)",
        "over": "(self, other)",
        "text": "(self)",
    },
    ("wordworth.machines", "Machine"): {
        "__init__": "(self, letters, start, steps, end)",
        "__call__": "(self, word)",
        "number": "(self, word)",
        "row": "(self, word)",
        "column": "(self, word)",
        "table": "(self, word)",
        "picture": "(self)",
    },
    ("wordworth.learner", "Learner"): {
        "__init__": "(self, letters)",
        "tell": "(self, number)",
        "agree": "(self)",
        "refuse": "(self, word)",
    },
    ("wordworth.house", "House"): {
        "__init__": "(self, letters)",
        "put": "(self, name, machine)",
        "names": "(self)",
        "machine": "(self, name)",
        "exchange": "(self, name, machine, paper)",
        "amend": "(self, name, word, number)",
        "remove": "(self, name)",
        "begin": "(self, stream, name)",
        "finish": "(self, stream)",
        "feed": "(self, stream, word)",
        "back": "(self, stream, count)",
        "word": "(self, stream)",
        "number": "(self, stream)",
        "streams": "(self)",
        "total": "(self, name, length)",
    },
}

PROPERTIES = {
    ("wordworth.ratios", "Ratio"): ["is_whole"],
    ("wordworth.machines", "Machine"): ["size"],
    ("wordworth.learner", "Learner"): ["wish"],
}


class InterfaceTest(unittest.TestCase):
    def test_functions_and_classes_are_defined_in_their_files(self):
        for listed in (FUNCTIONS, CLASSES):
            for module, names in listed.items():
                for name, arguments in names.items():
                    with self.subTest(module=module, name=name):
                        found = getattr(importlib.import_module(module), name)
                        self.assertEqual(found.__module__, module)
                        self.assertEqual(str(inspect.signature(found)), arguments)

    def test_methods_stand_in_the_class_itself(self):
        for (module, name), methods in METHODS.items():
            own = vars(getattr(importlib.import_module(module), name))
            for method, arguments in methods.items():
                with self.subTest(module=module, name=name, method=method):
                    self.assertEqual(str(inspect.signature(own[method])), arguments)

    def test_properties_stand_in_the_class_itself(self):
        for (module, name), properties in PROPERTIES.items():
            own = vars(getattr(importlib.import_module(module), name))
            for listed in properties:
                with self.subTest(module=module, name=name, property=listed):
                    self.assertIs(type(own[listed]), property)


if __name__ == "__main__":
    unittest.main()
