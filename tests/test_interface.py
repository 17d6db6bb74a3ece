"""The names, parameters and places of definition of the interface."""

import importlib
import inspect
import unittest

# For each module: its functions with their parameters, as Python writes them.
FUNCTIONS = {
    "words": {"is_number": "(value, least, most)", "is_name": "(value)"},
    "rests": {"parted": "(rest, other)"},
    "resttexts": {"read_rest": "(text)"},
    "rules": {
        "read_rule": "(text)",
        "ladder": "(name, size, every, steps)",
        "fullest": "(rest, uses)",
        "is_within": "(rule, uses)",
        "breach": "(rule, other)",
    },
    "deeds": {"is_deed": "(value)", "perform": "(purse, deed)"},
    "disks": {"read_areas": "(areas)"},
    "worlds": {"replay": "(house, events, *, rows=16)", "attempt": "(world, events)"},
    "witnesses": {
        "witness": "(house, purse, customer, asked)",
        "judge_witness": "(house, witness, purse)",
    },
    "books": {"judge_books": "(house, rule, books)", "book_uses": "(book)"},
    "timetables": {
        "leads": "(net, demand, other)",
        "needed": "(net, demands)",
        "journeys": "(net, demands)",
        "clash": "(net, demands)",
        "judge_journeys": "(net, demands, value)",
        "judge_clash": "(net, demands, value)",
        "clash_moments": "(net, demands, clash)",
    },
    "prompts": {"prompt": "(net, heaps, demands, *, moments, choices=(), last)"},
}
# For each module: its classes, with the methods that the interface lists for each.
CLASSES = {
    "rests": {
        "Rest": {
            "__call__": "(self, t)",
            "latest": "(self, f)",
            "steps": "(self, t, end)",
            "forms": "(self)",
            "period": "(self)",
            "bend": "(self)",
            "written": "(self)",
            "__str__": "(self)",
            "__repr__": "(self)",
            "__eq__": "(self, other)",
        },
        "Window": {"__init__": "(self, width)", "__call__": "(self, t)"},
        "Days": {"__init__": "(self, borders, every)", "__call__": "(self, t)", "borders": "(self)"},
        "Later": {"__init__": "(self, first, second)", "__call__": "(self, t)"},
        "Sooner": {"__init__": "(self, first, second)", "__call__": "(self, t)"},
        "Next": {"__init__": "(self, first, second)", "__call__": "(self, t)"},
    },
    "rules": {
        "Rule": {"__init__": "(self, name, chips, rest)", "__str__": "(self)", "__eq__": "(self, other)"},
    },
    "trees": {
        "Place": {
            "__init__": "(self, name, server, elder=None, *, memory=False, customer=None)",
            "__eq__": "(self, other)",
        },
        "Tree": {
            "__init__": "(self, rule, *places)",
            "places": "(self)",
            "place_of": "(self, name)",
            "children": "(self, name)",
            "way_up": "(self, name)",
            "is_above": "(self, name, other)",
            "servers": "(self)",
            "top": "(self, server)",
            "__contains__": "(self, name)",
            "__len__": "(self)",
            "__eq__": "(self, other)",
        },
    },
    "houses": {
        "House": {
            "__init__": "(self, *trees, servers, customers=(), rooms=())",
            "servers": "(self)",
            "rules": "(self)",
            "customers": "(self)",
            "error_of": "(self, server)",
            "weight_of": "(self, customer)",
            "tree_of": "(self, rule)",
            "path": "(self, customer)",
            "path_rules": "(self, customer)",
            "rooms": "(self, server)",
        },
    },
    "purses": {
        "Purse": {
            "__init__": "(self, tree, server, error)",
            "settle": "(self, reading)",
            "use": "(self, reading, place, n, *, lot=None)",
            "pay": "(self, reading, path, n)",
            "lend": "(self, reading, place, child, n, *, until=None, lot=None)",
            "prolong": "(self, reading, number, until)",
            "give_back": "(self, reading, place, lot, parts)",
            "recall": "(self, reading, place, lot)",
            "receive": "(self, reading, letter)",
            "lots": "(self, place)",
            "lot": "(self, place, number)",
            "remembered": "(self)",
            "usable": "(self, place)",
            "payable": "(self, path=())",
            "standing": "(self)",
            "table": "(self)",
            "__len__": "(self)",
            "copy": "(self)",
        },
    },
    "plain": {
        "Plain": {
            "__init__": "(self, tree, errors)",
            "do": "(self, event)",
            "purse": "(self, server)",
            "letters": "(self)",
            "uses": "(self)",
        },
    },
    "disks": {
        "Disk": {
            "__init__": "(self, table, *, rows=16)",
            "write": "(self, changes)",
            "check": "(self, *, synced=True)",
            "sync": "(self)",
            "fall": "(self, cut=())",
            "wake": "(self)",
            "table": "(self)",
            "areas": "(self)",
            "unsynced": "(self)",
            "copy": "(self)",
        },
    },
    "answers": {
        "Yes": {"__init__": "(self, paid)", "__eq__": "(self, other)", "__repr__": "(self)"},
        "No": {"__init__": "(self, rule, ready, asked)", "__eq__": "(self, other)", "__repr__": "(self)"},
        "Behind": {"__init__": "(self, customer)", "__eq__": "(self, other)", "__repr__": "(self)"},
        "Waits": {"__init__": "(self, room)", "__eq__": "(self, other)", "__repr__": "(self)"},
    },
    "rooms": {
        "Room": {
            "__init__": "(self, weights)",
            "join": "(self, customer, cost, until=None)",
            "serve": "(self)",
            "leave": "(self, reading)",
            "waiting": "(self)",
            "mark_of": "(self, customer)",
            "__len__": "(self)",
            "copy": "(self)",
        },
    },
    "servers": {
        "Server": {
            "__init__": "(self, house, name, *, rows=16)",
            "tick": "(self, reading)",
            "request": "(self, reading, customer, cost)",
            "enter": "(self, reading, room, customer, cost, *, until=None)",
            "use": "(self, reading, rule, place, n, *, lot=None)",
            "lend": "(self, reading, rule, place, child, n, *, until=None, lot=None)",
            "prolong": "(self, reading, rule, number, until)",
            "give_back": "(self, reading, rule, place, lot, parts)",
            "recall": "(self, reading, rule, place, lot)",
            "receive": "(self, reading, letter)",
            "do": "(self, deed)",
            "fall": "(self, cut=())",
            "wake": "(self, reading)",
            "crash": "(self, deed, cut=())",
            "when": "(self, reading, room)",
            "purse": "(self, rule)",
            "disk": "(self)",
            "waiting_in": "(self, room)",
            "head_of": "(self, room)",
            "mark_in": "(self, room, customer)",
            "book": "(self, rule)",
            "copy": "(self)",
        },
    },
    "worlds": {
        "World": {
            "__init__": "(self, house, *, rows=16)",
            "do": "(self, event)",
            "server_of": "(self, name)",
            "letters": "(self)",
            "uses": "(self, rule)",
            "fullest": "(self, rule)",
            "over": "(self)",
            "events": "(self)",
            "copy": "(self)",
        },
    },
    "witnesses": {
        "Witness": {
            "__init__": "(self, rule, server, reading, customer, asked, moment, events, extras, start)",
            "events": "(self)",
            "extras": "(self)",
            "__eq__": "(self, other)",
        },
    },
    "nets": {
        "Net": {
            "__init__": "(self, *rows, rest)",
            "names": "(self)",
            "elder_of": "(self, name)",
            "error_of": "(self, name)",
            "delay_of": "(self, name)",
            "way": "(self, name, other)",
            "dist": "(self, name, other)",
            "kappa": "(self, name, other)",
            "kappa_place": "(self, name, other)",
            "tree_of": "(self, chips)",
            "errors": "(self)",
        },
    },
    "policies": {
        "Share": {"__init__": "(self, child, n, span, lead)", "__call__": "(self, place, reading, purse, come)"},
        "Stranger": {"__init__": "(self, numbers)", "__call__": "(self, place, reading, purse, come)"},
        "Steward": {"__init__": "(self, net, demands, journey)", "__call__": "(self, place, reading, purse, come)"},
    },
    "prompts": {
        "Prompt": {
            "kept": "(self)",
            "uses": "(self, heap)",
            "operations": "(self, heap)",
            "letters": "(self, heap)",
        },
    },
}
# For each class method: its parameters behind the class.
CLASS_METHODS = {("purses", "Purse", "restored"): "(tree, server, error, table, reading)"}
PROPERTIES = {
    ("houses", "House"): ["scale"],
    ("purses", "Purse"): ["ready_chips", "past", "last_reading"],
    ("plain", "Plain"): ["now"],
    ("disks", "Disk"): ["syncs", "fallen"],
    ("rooms", "Room"): ["head", "level", "scale"],
    ("servers", "Server"): ["syncs", "fallen"],
    ("worlds", "World"): ["now"],
}
GENERATORS = {("Rest", "steps"), ("Tree", "way_up")}
BASES = {"Window": "Rest", "Days": "Rest", "Later": "Rest", "Sooner": "Rest", "Next": "Rest"}


def module_of(name):
    return importlib.import_module("surelet." + name)


class Interface(unittest.TestCase):
    def test_functions_stand_in_their_files(self):
        for name, rows in FUNCTIONS.items():
            for word, parameters in rows.items():
                found = getattr(module_of(name), word)
                self.assertTrue(inspect.isfunction(found), (name, word))
                self.assertEqual(found.__module__, "surelet." + name, word)
                self.assertEqual(str(inspect.signature(found)), parameters, (name, word))
                self.assertFalse(inspect.isgeneratorfunction(found), (name, word))

    def test_classes_stand_in_their_files_with_their_methods(self):
        for name, rows in CLASSES.items():
            for word, methods in rows.items():
                found = getattr(module_of(name), word)
                self.assertTrue(inspect.isclass(found), (name, word))
                self.assertEqual(found.__module__, "surelet." + name, word)
                for method, parameters in methods.items():
                    self.assertIn(method, vars(found), word)
                    self.assertEqual(str(inspect.signature(vars(found)[method])), parameters, (word, method))
                    generates = inspect.isgeneratorfunction(vars(found)[method])
                    self.assertEqual(generates, (word, method) in GENERATORS, (word, method))

    def test_properties(self):
        for (name, word), keys in PROPERTIES.items():
            for key in keys:
                self.assertIsInstance(vars(getattr(module_of(name), word))[key], property)

    def test_class_methods(self):
        for (name, word, method), parameters in CLASS_METHODS.items():
            found = getattr(module_of(name), word)
            self.assertIsInstance(vars(found)[method], classmethod)
            self.assertEqual(str(inspect.signature(getattr(found, method))), parameters)

    def test_base_classes(self):
        for name, rows in CLASSES.items():
            for word in rows:
                found = [base.__name__ for base in getattr(module_of(name), word).__bases__]
                self.assertEqual(found, [BASES.get(word, "object")], word)


if __name__ == "__main__":
    unittest.main()
