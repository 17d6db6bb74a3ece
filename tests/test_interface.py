"""The names, parameters and places of definition of the interface."""

import importlib
import inspect
import unittest

# For each module: its functions with their parameters, as Python writes them.
FUNCTIONS = {
    "words": {"is_number": "(value, least, most)", "is_name": "(value)"},
    "rests": {"parted": "(rest, other)"},
    "resttexts": {"read_rest": "(text)"},
    "rules": {
        "read_rule": "(text)",
        "ladder": "(name, size, every, steps)",
        "fullest": "(rest, uses)",
        "is_within": "(rule, uses)",
        "breach": "(rule, other)",
    },
}
# For each module: its classes, with the methods that the interface lists for each.
CLASSES = {
    "rests": {
        "Rest": {
            "__call__": "(self, t)",
            "latest": "(self, f)",
            "steps": "(self, t, end)",
            "forms": "(self)",
            "period": "(self)",
            "bend": "(self)",
            "written": "(self)",
            "__str__": "(self)",
            "__repr__": "(self)",
            "__eq__": "(self, other)",
        },
        "Window": {"__init__": "(self, width)", "__call__": "(self, t)"},
        "Days": {"__init__": "(self, borders, every)", "__call__": "(self, t)", "borders": "(self)"},
        "Later": {"__init__": "(self, first, second)", "__call__": "(self, t)"},
        "Sooner": {"__init__": "(self, first, second)", "__call__": "(self, t)"},
        "Next": {"__init__": "(self, first, second)", "__call__": "(self, t)"},
    },
    "rules": {
        "Rule": {"__init__": "(self, name, chips, rest)", "__str__": "(self)", "__eq__": "(self, other)"},
    },
    "trees": {
        "Place": {
            "__init__": "(self, name, server, elder=None, *, memory=False, customer=None)",
            "__eq__": "(self, other)",
        },
        "Tree": {
            "__init__": "(self, rule, *places)",
            "places": "(self)",
            "place_of": "(self, name)",
            "children": "(self, name)",
            "way_up": "(self, name)",
            "is_above": "(self, name, other)",
            "servers": "(self)",
            "top": "(self, server)",
            "__contains__": "(self, name)",
            "__len__": "(self)",
            "__eq__": "(self, other)",
        },
    },
    "houses": {
        "House": {
            "__init__": "(self, *trees, servers, customers=(), rooms=())",
            "servers": "(self)",
            "rules": "(self)",
            "customers": "(self)",
            "error_of": "(self, server)",
            "weight_of": "(self, customer)",
            "tree_of": "(self, rule)",
            "path": "(self, customer)",
            "path_rules": "(self, customer)",
            "rooms": "(self, server)",
        },
    },
}
PROPERTIES = {("houses", "House"): ["scale"]}
GENERATORS = {("Rest", "steps"), ("Tree", "way_up")}
BASES = {"Window": "Rest", "Days": "Rest", "Later": "Rest", "Sooner": "Rest", "Next": "Rest"}


def module_of(name):
    return importlib.import_module("surelet." + name)


class Interface(unittest.TestCase):
    def test_functions_stand_in_their_files(self):
        for name, rows in FUNCTIONS.items():
            for word, parameters in rows.items():
                found = getattr(module_of(name), word)
                self.assertTrue(inspect.isfunction(found), (name, word))
                self.assertEqual(found.__module__, "surelet." + name, word)
                self.assertEqual(str(inspect.signature(found)), parameters, (name, word))
                self.assertFalse(inspect.isgeneratorfunction(found), (name, word))

    def test_classes_stand_in_their_files_with_their_methods(self):
        for name, rows in CLASSES.items():
            for word, methods in rows.items():
                found = getattr(module_of(name), word)
                self.assertTrue(inspect.isclass(found), (name, word))
                self.assertEqual(found.__module__, "surelet." + name, word)
                for method, parameters in methods.items():
                    self.assertIn(method, vars(found), word)
                    self.assertEqual(str(inspect.signature(vars(found)[method])), parameters, (word, method))
                    generates = inspect.isgeneratorfunction(vars(found)[method])
                    self.assertEqual(generates, (word, method) in GENERATORS, (word, method))

    def test_properties(self):
        for (name, word), keys in PROPERTIES.items():
            for key in keys:
                self.assertIsInstance(vars(getattr(module_of(name), word))[key], property)

    def test_base_classes(self):
        for name, rows in CLASSES.items():
            for word in rows:
                found = [base.__name__ for base in getattr(module_of(name), word).__bases__]
                self.assertEqual(found, [BASES.get(word, "object")], word)


if __name__ == "__main__":
    unittest.main()
