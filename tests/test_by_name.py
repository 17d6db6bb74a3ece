"""Calls of the whole interface, with all arguments by the names of the document, and by position."""

import inspect
import unittest

from netting import EXAMPLE
from support import Case
from test_interface import CLASSES, CLASS_METHODS, FUNCTIONS, module_of

from surelet import errors
from surelet.disks import Disk
from surelet.houses import House
from surelet.plain import Plain
from surelet.policies import Share, Steward, Stranger
from surelet.prompts import prompt
from surelet.purses import Purse
from surelet.rests import Days, Later, Next, Sooner, Window
from surelet.rooms import Room
from surelet.rules import Rule
from surelet.servers import Server
from surelet.trees import Place, Tree
from surelet.witnesses import witness
from surelet.worlds import World

RULE = Rule("r", 9, Window(10))
TREE = Tree(RULE, Place("a", "sa"), Place("a2", "sa", "a"), Place("b", "sb", "a"))
HOUSE = House(TREE, servers=[("sa", 1), ("sb", 2)], customers=[("ann", None, 1, ["r"])], rooms=[("hall", "sa")])
LETTER = ("lend", "r", "b", 1, 2, 40)
EVENT = ("deed", 1, "sa", ("use", 1, "r", "a", 1, None))
DEMANDS = [("b", 5), ("c", 20), ("c", 19)]
TABLE = {"r past": "0", "r next": "1", "r lot a 0": "- - 9 0"}


def purse():
    """A purse with a loan to another server, and one to a place of its own."""
    one = Purse(TREE, "sa", 1)
    one.lend(0, "a", "b", 2, until=40)
    one.lend(0, "a", "a2", 1)
    return one


def server():
    one = Server(HOUSE, "sa")
    one.lend(0, "r", "a", "b", 2, until=40)
    one.lend(0, "r", "a", "a2", 1)
    return one


def fallen(make):
    one = make()
    one.fall()
    return one


def room():
    one = Room({"ann": 1})
    one.join("ann", 2, 9)
    return one


def run():
    return prompt(EXAMPLE, [(1, Share("b", 1, 20, 5))], [("a", 0, 0)], moments=[None], last=5)


# For each function: the arguments by their names.
CALLS = {
    "is_number": {"value": 5, "least": 1, "most": 9},
    "is_name": {"value": "ann"},
    "parted": {"rest": Window(3), "other": Window(4)},
    "read_rest": {"text": "window 5"},
    "read_rule": {"text": "r 9 window 10"},
    "ladder": {"name": "b", "size": 3, "every": 4, "steps": 3},
    "fullest": {"rest": Window(3), "uses": [(0, 2)]},
    "is_within": {"rule": RULE, "uses": [(0, 2)]},
    "breach": {"rule": RULE, "other": Rule("s", 10, Window(12))},
    "is_deed": {"value": ("tick", 1)},
    "perform": {"purse": lambda: purse(), "deed": ("tick", 1)},
    "read_areas": {"areas": Disk({"a": "b"}).areas()},
    "replay": {"house": HOUSE, "events": [EVENT], "rows": 3},
    "attempt": {"world": lambda: World(HOUSE), "events": [EVENT]},
    "judge_books": {"house": HOUSE, "rule": "r", "books": {"sa": [("tick", 1)]}},
    "book_uses": {"book": [("use", 1, "r", "a", 1, None)]},
    "leads": {"net": EXAMPLE, "demand": ("b", 5), "other": ("c", 20)},
    "needed": {"net": EXAMPLE, "demands": DEMANDS},
    "journeys": {"net": EXAMPLE, "demands": DEMANDS},
    "clash": {"net": EXAMPLE, "demands": DEMANDS},
    "judge_journeys": {"net": EXAMPLE, "demands": DEMANDS, "value": [[0, 1], [2]]},
    "judge_clash": {"net": EXAMPLE, "demands": DEMANDS, "value": [0, 2]},
    "clash_moments": {"net": EXAMPLE, "demands": DEMANDS, "clash": [0, 2]},
    "prompt": {"net": EXAMPLE, "heaps": [(1, None)], "demands": [("a", 0, 0)], "moments": [0], "choices": [1], "last": 2},
}


def settled():
    one = purse()
    one.settle(5)
    return one


CALLS["witness"] = {"house": HOUSE, "purse": settled, "customer": "ann", "asked": 9}
CALLS["judge_witness"] = {"house": HOUSE, "witness": lambda: witness(HOUSE, settled(), "ann", 9), "purse": settled}

# For each class: how an object is made, and for each method the arguments by their names; how else it is made, if need be.
MAKES = {
    "Window": {"width": 5}, "Days": {"borders": [3], "every": 5}, "Later": {"first": Window(2), "second": Window(3)},
    "Sooner": {"first": Window(2), "second": Window(3)}, "Next": {"first": Window(2), "second": Window(3)},
    "Rule": {"name": "r", "chips": 9, "rest": Window(10)},
    "Place": {"name": "b", "server": "sb", "elder": "a", "memory": True, "customer": "ann"},
    "Purse": {"tree": TREE, "server": "sa", "error": 1}, "Plain": {"tree": TREE, "errors": {"sa": 1, "sb": 2}},
    "Disk": {"table": {"a": "b"}, "rows": 4}, "Yes": {"paid": [("r", "a", 0, 1)]}, "No": {"rule": "r", "ready": 0, "asked": 1},
    "Behind": {"customer": "ann"}, "Waits": {"room": "hall"}, "Room": {"weights": {"ann": 1}},
    "Server": {"house": HOUSE, "name": "sa", "rows": 4}, "World": {"house": HOUSE, "rows": 4},
    "Witness": {"rule": 1, "server": 2, "reading": 3, "customer": 4, "asked": 5, "moment": 6, "events": 7, "extras": 8, "start": 9},
    "Share": {"child": "b", "n": 1, "span": 9, "lead": 2}, "Stranger": {"numbers": [1, 2]},
    "Steward": {"net": EXAMPLE, "demands": DEMANDS, "journey": [0, 1]},
}
ASKED = {"place": "a", "reading": 1, "purse": lambda: Purse(EXAMPLE.tree_of(2), "a", 0), "come": ()}
METHODS = {
    "Rest": (lambda: Window(5), {"__call__": {"t": 3}, "latest": {"f": 9}, "steps": {"t": 1, "end": 20}}),
    "Window": (lambda: Window(5), {"__call__": {"t": 3}}),
    "Days": (lambda: Days([3], 5), {"__call__": {"t": 3}}),
    "Later": (lambda: Later(Window(2), Window(3)), {"__call__": {"t": 3}}),
    "Sooner": (lambda: Sooner(Window(2), Window(3)), {"__call__": {"t": 3}}),
    "Next": (lambda: Next(Window(2), Window(3)), {"__call__": {"t": 3}}),
    "Tree": (lambda: TREE, {
        "place_of": {"name": "a"}, "children": {"name": "a"}, "way_up": {"name": "b"}, "is_above": {"name": "a", "other": "b"},
        "top": {"server": "sb"},
    }),
    "House": (lambda: HOUSE, {
        "error_of": {"server": "sa"}, "weight_of": {"customer": "ann"}, "tree_of": {"rule": "r"}, "path": {"customer": "ann"},
        "path_rules": {"customer": "ann"}, "rooms": {"server": "sa"},
    }),
    "Purse": (purse, {
        "settle": {"reading": 2}, "use": {"reading": 2, "place": "a", "n": 1, "lot": 0},
        "pay": {"reading": 2, "path": ["ann"], "n": 1},
        "lend": {"reading": 2, "place": "a", "child": "b", "n": 1, "until": 30, "lot": 0},
        "prolong": {"reading": 2, "number": 1, "until": 50},
        "give_back": {"reading": 2, "place": "a2", "lot": 2, "parts": [(0, 1)]},
        "recall": {"reading": 2, "place": "a2", "lot": 2},
        "receive": {"reading": 2, "letter": ("back", "r", "b", 1, 1, ((0, 1),))}, "lots": {"place": "a"},
        "lot": {"place": "a", "number": 0}, "usable": {"place": "a"}, "payable": {"path": ["ann"]},
    }),
    "Plain": (lambda: Plain(TREE, {"sa": 1, "sb": 2}), {"do": {"event": EVENT}, "purse": {"server": "sa"}}),
    "Disk": (lambda: Disk({"a": "b"}), {
        "write": {"changes": {"a": None}}, "check": {"synced": False}, "fall": {"cut": ["kept"]},
    }),
    "Room": (room, {
        "join": {"customer": "ann", "cost": 2, "until": 9}, "leave": {"reading": 10}, "mark_of": {"customer": "ann"},
    }),
    "Server": (server, {
        "tick": {"reading": 2}, "request": {"reading": 2, "customer": "ann", "cost": 1},
        "enter": {"reading": 2, "room": "hall", "customer": "ann", "cost": 1, "until": 9},
        "use": {"reading": 2, "rule": "r", "place": "a", "n": 1, "lot": 0},
        "lend": {"reading": 2, "rule": "r", "place": "a", "child": "b", "n": 1, "until": 30, "lot": 0},
        "prolong": {"reading": 2, "rule": "r", "number": 1, "until": 50},
        "give_back": {"reading": 2, "rule": "r", "place": "a2", "lot": 2, "parts": [(0, 1)]},
        "recall": {"reading": 2, "rule": "r", "place": "a2", "lot": 2},
        "receive": {"reading": 2, "letter": ("back", "r", "b", 1, 1, ((0, 1),))}, "do": {"deed": ("tick", 2)},
        "fall": {"cut": ["kept"]}, "crash": {"deed": ("tick", 2), "cut": ["lost"]}, "when": {"reading": 2, "room": "hall"},
        "purse": {"rule": "r"}, "waiting_in": {"room": "hall"}, "head_of": {"room": "hall"},
        "mark_in": {"room": "hall", "customer": "ann"}, "book": {"rule": "r"},
    }),
    "World": (lambda: World(HOUSE), {
        "do": {"event": EVENT}, "server_of": {"name": "sa"}, "uses": {"rule": "r"}, "fullest": {"rule": "r"},
    }),
    "Net": (lambda: EXAMPLE, {
        "elder_of": {"name": "b"}, "error_of": {"name": "b"}, "delay_of": {"name": "b"}, "way": {"name": "b", "other": "c"},
        "dist": {"name": "b", "other": "c"}, "kappa": {"name": "b", "other": "c"}, "kappa_place": {"name": "b", "other": "c"},
        "tree_of": {"chips": 3},
    }),
    "Share": (lambda: Share("b", 1, 9, 2), {"__call__": ASKED}),
    "Stranger": (lambda: Stranger([1, 2, 3]), {"__call__": ASKED}),
    "Steward": (lambda: Steward(EXAMPLE, DEMANDS, [0, 1]), {"__call__": ASKED}),
    "Prompt": (run, {"uses": {"heap": 0}, "operations": {"heap": 0}, "letters": {"heap": 0}}),
}
WAKES = {"Disk": (lambda: Disk({"a": "b"}), {}), "Server": (server, {"reading": 2})}


def shown(value):
    """A value as a text, with what an object of the package has in it."""
    if isinstance(value, (list, tuple)):
        return f"{type(value).__name__}({', '.join(shown(item) for item in value)})"
    if isinstance(value, dict):
        return f"dict({', '.join(f'{shown(key)}: {shown(item)}' for key, item in value.items())})"
    if type(value).__module__.startswith("surelet."):
        return f"{type(value).__name__}{shown(vars(value))}"
    return repr(list(value) if inspect.isgenerator(value) else value)


def fresh(told):
    """The arguments, those anew that are made by a call."""
    return {key: value() if inspect.isfunction(value) else value for key, value in told.items()}


class ByName(Case):
    def check_call(self, call, parameters, told, again=None):
        """By name and by position a call returns the same; told has each parameter of the document."""
        kinds = inspect.signature(call).parameters
        self.assertEqual(set(told), set(kinds), parameters)
        by_name = call(**dict(reversed(list(fresh(told).items()))))
        named = {key: value for key, value in fresh(told).items() if kinds[key].kind is inspect.Parameter.KEYWORD_ONLY}
        others = [value for key, value in fresh(told).items() if key not in named]
        by_position = (again or call)(*others, **named)
        self.assertEqual(shown(by_name), shown(by_position), parameters)

    def test_functions(self):
        for name, rows in FUNCTIONS.items():
            for word in rows:
                self.check_call(getattr(module_of(name), word), word, CALLS[word])

    def test_classes(self):
        for name, rows in CLASSES.items():
            for word in rows:
                if word not in ("Rest", "Tree", "House", "Net", "Prompt"):
                    self.check_call(getattr(module_of(name), word), word, MAKES[word])
        self.check_same(TREE == Tree(RULE, *TREE.places()), True)
        self.check_same(len(Tree(RULE, Place(name="a", server="sa"))), 1)

    def test_methods(self):
        for name, rows in CLASSES.items():
            for word, methods in rows.items():
                for method, parameters in methods.items():
                    if "," in parameters and method not in ("__init__", "__eq__", "__contains__"):
                        if method == "wake":
                            continue
                        make, told = METHODS[word]
                        self.check_call(getattr(make(), method), (word, method), told[method], getattr(make(), method))

    def test_waking(self):
        for make, told in WAKES.values():
            one, other = fallen(make), fallen(make)
            self.check_same([one.wake(**told), other.wake(*told.values())], [None, None])
            self.check_same([one.fallen, other.fallen], [False, False])

    def test_class_methods(self):
        told = {"tree": TREE, "server": "sa", "error": 1, "table": TABLE, "reading": 3}
        self.check_same(list(CLASS_METHODS), [("purses", "Purse", "restored")])
        self.check_call(Purse.restored, "restored", told)

    def test_errors(self):
        for word, found in vars(errors).items():
            if inspect.isclass(found) and word not in ("SureletError", "Missing", "NotNow"):
                names = list(inspect.signature(found).parameters)
                error = found(**{name: [name] for name in names})
                self.check_same([getattr(error, name) for name in names], [[name] for name in names])


if __name__ == "__main__":
    unittest.main()
