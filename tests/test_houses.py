"""Houses: servers, trees, customers and rooms."""

import copy
import inspect
import itertools
import math
import unittest

from support import NOT_NUMBERS, Case

from surelet.errors import (
    InvalidCustomer, InvalidRoom, InvalidServer, InvalidTree, TooMany, UnknownName,
)
from surelet.houses import House
from surelet.rests import Window
from surelet.rules import Rule
from surelet.trees import Place, Tree
from surelet.words import is_name

NO_NAMES = [value for value in NOT_NUMBERS if not is_name(value)] + [5, 0, "abcdefghi", "0a", "a b", "Ab"]
NO_LISTS = [value for value in NOT_NUMBERS if not isinstance(value, (list, tuple))] + [5, "sa"]


def tree_of(rule, *places):
    """A tree of a rule with this name, with a first place on the server sa."""
    return Tree(Rule(rule, 3, Window(10)), Place("a", "sa"), *places)


R1 = tree_of("r1", Place("b", "sb", "a"), Place("d", "sb", "b", customer="ann"))
R0 = tree_of("r0", Place("m", "sa", "a", memory=True, customer="bob"))
R2 = Tree(Rule("r2", 5, Window(4)), Place("x", "sb"))
SERVERS = [("sb", 7), ("sa", 0), ("sc", 100)]
CUSTOMERS = [
    ("firm", None, 4, ["r2", "r1"]),
    ("ann", "firm", 6, ["r0"]),
    ("bob", None, 1, []),
    ("zoe", "ann", 12, ["r2", "r0"]),
    ("abe", "firm", 3, ()),
]
ROOMS = [("hall", "sa"), ("desk", "sb"), ("attic", "sa")]


def house(**changed):
    """The house of these tests, with some arguments changed."""
    named = {"servers": SERVERS, "customers": CUSTOMERS, "rooms": ROOMS}
    named.update(changed)
    trees = named.pop("trees", (R1, R0, R2))
    return House(*trees, **named)


class Houses(Case):
    def test_names_ascending(self):
        for made in (house(), house(servers=tuple(SERVERS), customers=tuple(CUSTOMERS), rooms=tuple(ROOMS))):
            self.check_same(made.servers(), ["sa", "sb", "sc"])
            self.check_same(made.rules(), ["r0", "r1", "r2"])
            self.check_same(made.customers(), ["abe", "ann", "bob", "firm", "zoe"])

    def test_servers(self):
        made = house()
        for name, error in SERVERS:
            self.check_same(made.error_of(name), error)
            self.check_same(made.error_of(server=name), error)

    def test_trees(self):
        made = house()
        for tree in (R0, R1, R2):
            self.assertIs(made.tree_of(tree.rule.name), tree)
            self.assertIs(made.tree_of(rule=tree.rule.name), tree)

    def test_customers(self):
        made = house()
        for name, _, weight, _ in CUSTOMERS:
            self.check_same(made.weight_of(name), weight)
            self.check_same(made.weight_of(customer=name), weight)
        paths = {"firm": ["firm"], "ann": ["ann", "firm"], "bob": ["bob"], "zoe": ["zoe", "ann", "firm"],
                 "abe": ["abe", "firm"]}
        rules = {"firm": ["r1", "r2"], "ann": ["r0", "r1", "r2"], "bob": [], "zoe": ["r0", "r1", "r2"],
                 "abe": ["r1", "r2"]}
        for name in paths:
            self.check_same(made.path(name), paths[name])
            self.check_same(made.path(customer=name), paths[name])
            self.check_same(made.path_rules(name), rules[name])
            self.check_same(made.path_rules(customer=name), rules[name])

    def test_rooms(self):
        made = house()
        self.check_same(made.rooms("sa"), ["attic", "hall"])
        self.check_same(made.rooms(server="sb"), ["desk"])
        self.check_same(made.rooms("sc"), [])

    def test_scale(self):
        self.check_same(house().scale, 12)
        self.assertIsInstance(inspect.getattr_static(House, "scale"), property)
        for weights in [(1,), (12,), (2, 3), (4, 6), (1, 2, 3, 4, 5, 6, 7, 8, 9, 10, 11, 12), (8, 12), (5, 5)]:
            customers = [(f"c{k}", None, weight, []) for k, weight in enumerate(weights)]
            made = House(servers=SERVERS, customers=customers)
            self.check_same(made.scale, math.lcm(*weights))
            self.check_same([made.weight_of(f"c{k}") for k in range(len(weights))], list(weights))

    def test_defaults_and_no_trees(self):
        made = House(servers=[("sa", 0)])
        self.check_same((made.servers(), made.rules(), made.customers(), made.rooms("sa")), (["sa"], [], [], []))
        self.check_same(made.scale, 1)
        made = House(tree_of("r"), servers=[("sa", 0)], rooms=[("desk", "sa")])
        self.check_same((made.rules(), made.customers(), made.rooms("sa")), (["r"], [], ["desk"]))

    def test_what_is_keyword_only(self):
        with self.assertRaises(TypeError):
            House(R1)
        self.check_error(InvalidTree, [1], House, R2, SERVERS, servers=SERVERS)

    def test_unknown_names(self):
        made = house()
        for value in NO_NAMES + ["z", "sd", "r3", "desks", ""]:
            for ask in (made.error_of, made.weight_of, made.tree_of, made.path, made.path_rules, made.rooms):
                self.check_error(UnknownName, [value], ask, value)
        for value in ("r1", "ann", "desk", "a"):
            self.check_error(UnknownName, [value], made.error_of, value)
            self.check_error(UnknownName, [value], made.rooms, value)
        for value in ("sa", "ann", "desk", "a"):
            self.check_error(UnknownName, [value], made.tree_of, value)
        for value in ("sa", "r1", "desk", "a"):
            for ask in (made.weight_of, made.path, made.path_rules):
                self.check_error(UnknownName, [value], ask, value)

    def test_equal_names_of_different_things(self):
        tree = Tree(Rule("n", 1, Window(2)), Place("n", "n"))
        made = House(tree, servers=[("n", 3)], customers=[("n", None, 5, ["n"])], rooms=[("n", "n")])
        self.check_same((made.error_of("n"), made.weight_of("n"), made.rooms("n")), (3, 5, ["n"]))
        self.check_same((made.path("n"), made.path_rules("n")), (["n"], ["n"]))
        self.assertIs(made.tree_of("n"), tree)


class Copies(Case):
    def told(self, made):
        """All that a house tells."""
        return [
            made.servers(), made.rules(), made.customers(), made.scale,
            [made.error_of(name) for name in made.servers()],
            [made.rooms(name) for name in made.servers()],
            [(made.path(name), made.path_rules(name), made.weight_of(name)) for name in made.customers()],
        ]

    def test_what_is_passed_may_be_changed(self):
        servers, rooms = list(SERVERS), list(ROOMS)
        rules = ["r2", "r1"]
        customers = [("firm", None, 4, rules)] + CUSTOMERS[1:]
        made = house(servers=servers, customers=customers, rooms=rooms)
        before = self.told(made)
        self.check_same(servers, SERVERS)
        self.check_same(rooms, ROOMS)
        self.check_same(customers, CUSTOMERS)
        for passed in (servers, rooms, customers, rules):
            passed.clear()
        self.check_same(self.told(made), before)
        self.check_same(self.told(made), self.told(house()))

    def test_what_is_returned_may_be_changed(self):
        made = house()
        before = copy.deepcopy(self.told(made))
        for ask in (
            made.servers, made.rules, made.customers, lambda: made.path("zoe"), lambda: made.path_rules("zoe"),
            lambda: made.rooms("sa"),
        ):
            self.assertIs(type(ask()), list)
            ask().reverse()
            ask().append("z")
            ask().clear()
            self.check_same(self.told(made), before)


class BadServers(Case):
    def check_servers(self, values, servers):
        self.check_error(InvalidServer, values, house, servers=servers)

    def test_no_list_or_an_empty_one(self):
        for value in NO_LISTS + [[], ()]:
            self.check_servers([-1], value)
            self.check_error(InvalidServer, [-1], House, None, servers=value, customers=1, rooms=1)

    def test_items_that_are_no_pairs(self):
        for value in NOT_NUMBERS + [5, "sa", ("sa",), ("sa", 0, 0), ["sa", 0], {"sa": 0}, ("sa", ("sa", 0))]:
            if isinstance(value, tuple) and value == ("a", 1):
                continue
            self.check_servers([0], [value])
            self.check_servers([0], (value, value))
            self.check_servers([3], SERVERS + [value])

    def test_names_and_errors(self):
        for value in NO_NAMES:
            self.check_servers([1], [("sa", 0), (value, 0)])
        for value in NOT_NUMBERS + [-1, 101, 999999999]:
            self.check_servers([1], [("sa", 0), ("sb", value)])
        made = House(servers=[("sa", 0), ("sb", 100), ("sc", 1), ("sd", 99)])
        self.check_same([made.error_of(name) for name in made.servers()], [0, 100, 1, 99])

    def test_double_names_and_the_first_wrong_item(self):
        self.check_servers([1], [("sa", 0), ("sa", 0)])
        self.check_servers([3], SERVERS + [("sb", 1), None])
        self.check_servers([1], [("sa", 0), None, ("sa", 0)])
        self.check_servers([7], [(f"s{k}", 0) for k in range(7)] + [("s0", 0)])

    def test_counts(self):
        rows = [(f"s{k}", k) for k in range(8)]
        self.check_same(House(servers=rows[:6]).servers(), [name for name, _ in rows[:6]])
        for many in (7, 8):
            self.check_error(TooMany, ["servers", many], House, servers=rows[:many])
            self.check_error(TooMany, ["servers", many], House, None, servers=rows[:many], customers=1, rooms=1)


class BadTrees(Case):
    def test_values_that_are_no_trees(self):
        for value in [value for value in NOT_NUMBERS if not isinstance(value, Tree)] + [5, [R1], R1.rule]:
            self.check_error(InvalidTree, [0], house, trees=(value,))
            self.check_error(InvalidTree, [2], house, trees=(R1, R0, value, value), customers=1)

    def test_double_rules(self):
        self.check_error(InvalidTree, [1], house, trees=(R1, R1))
        self.check_error(InvalidTree, [2], house, trees=(R1, R0, tree_of("r1"), None))
        self.check_error(InvalidTree, [1], House, R2, Tree(Rule("r2", 9, Window(1)), Place("q", "sa")), servers=SERVERS)

    def test_unknown_servers(self):
        far = tree_of("far", Place("b", "sb", "a"), Place("c", "sd", "b"))
        self.check_error(InvalidTree, [0], House, far, servers=SERVERS)
        self.check_error(InvalidTree, [1], House, tree_of("r"), far, R2, None, servers=SERVERS)
        self.check_error(InvalidTree, [0], House, tree_of("r"), servers=[("sb", 0)])
        self.check_same(House(far, servers=SERVERS + [("sd", 0)]).rules(), ["far"])

    def test_the_first_wrong_tree(self):
        far = Tree(Rule("far", 9, Window(1)), Place("q", "sz"))
        for faults in itertools.permutations([None, R1, far]):
            self.check_error(InvalidTree, [2], House, R1, R2, *faults, servers=SERVERS)

    def test_counts(self):
        trees = [tree_of(f"t{k}") for k in range(14)]
        self.check_same(len(House(*trees[:12], servers=SERVERS).rules()), 12)
        for many in (13, 14):
            self.check_error(TooMany, ["rules", many], House, *trees[:many], servers=SERVERS)
            self.check_error(TooMany, ["rules", many], House, *trees[:many], servers=SERVERS, customers=1, rooms=1)
        self.check_error(InvalidTree, [13], House, *trees[:13], None, servers=SERVERS)


class BadCustomers(Case):
    def check_customer(self, row):
        """The row is refused as the only one, behind others, and ahead of another wrong one."""
        self.check_error(InvalidCustomer, [1], house, trees=(R2,), customers=[("eve", None, 1, []), row])
        self.check_error(InvalidCustomer, [1], house, trees=(R2,), customers=(("eve", None, 1, []), row, row, None))
        self.check_error(InvalidCustomer, [5], house, customers=CUSTOMERS + [row], rooms=1)

    def test_no_list(self):
        for value in NO_LISTS:
            self.check_error(InvalidCustomer, [-1], house, customers=value)
            self.check_error(InvalidCustomer, [-1], house, customers=value, rooms=value)

    def test_items_that_are_no_rows(self):
        for value in NOT_NUMBERS + [
            5, (), ("eva",), ("eva", None), ("eva", None, 1), ("eva", None, 1, [], []), ["eva", None, 1, []],
            {"eva": None}, "evas",
        ]:
            self.check_customer(value)
            self.check_error(InvalidCustomer, [0], House, servers=SERVERS, customers=[value])

    def test_names(self):
        for value in NO_NAMES + ["eve"]:
            self.check_error(InvalidCustomer, [1], house, trees=(), customers=[("eve", None, 1, []), (value, None, 1, [])])
        self.check_error(InvalidCustomer, [5], house, customers=CUSTOMERS + [("ann", "firm", 6, ["r0"])])

    def test_elders(self):
        for value in [value for value in NO_NAMES if value is not None] + ["z", "eva", "late", "sa", "r2"]:
            self.check_customer(("eva", value, 1, []))
        rows = [("eva", "late", 1, []), ("late", None, 1, [])]
        self.check_error(InvalidCustomer, [0], House, servers=SERVERS, customers=rows)
        self.check_same(House(servers=SERVERS, customers=rows[::-1]).path("eva"), ["eva", "late"])

    def test_weights(self):
        for value in NOT_NUMBERS + [0, -1, 13, 999999999]:
            self.check_customer(("eva", None, value, []))
        for value in (1, 2, 11, 12):
            self.check_same(House(servers=SERVERS, customers=[("eva", None, value, [])]).weight_of("eva"), value)

    def test_rules(self):
        for value in NO_LISTS + ["r2", {"r2": 1}]:
            self.check_customer(("eva", None, 1, value))
        for value in NO_NAMES + ["r9", "eva", "sa"]:
            self.check_customer(("eva", None, 1, [value]))
            self.check_customer(("eva", None, 1, ("r2", value)))
        self.check_customer(("eva", None, 1, ["r2", "r2"]))
        self.check_error(InvalidCustomer, [0], house, customers=[("eva", None, 1, ("r1", "r2", "r1"))])
        made = House(R0, R1, R2, servers=SERVERS, customers=[("ann", None, 1, ()), ("bob", "ann", 1, ("r2", "r0", "r1"))])
        self.check_same((made.path_rules("ann"), made.path_rules("bob")), ([], ["r0", "r1", "r2"]))

    def test_counts(self):
        rows = [(f"c{k}", None, 1, []) for k in range(15)]
        self.check_same(len(House(servers=SERVERS, customers=rows[:12]).customers()), 12)
        for many in (13, 15):
            self.check_error(TooMany, ["customers", many], House, servers=SERVERS, customers=rows[:many])
            # The drawers of R1 are for nobody here.
            self.check_error(TooMany, ["customers", many], House, R1, servers=SERVERS, customers=rows[:many], rooms=1)
        self.check_error(InvalidCustomer, [13], House, servers=SERVERS, customers=rows[:13] + [("c0", None, 1, [])])

    def test_drawers_for_unknown_customers(self):
        only = [("eve", None, 1, [])]
        self.check_error(UnknownName, ["ann"], House, R1, servers=SERVERS)
        self.check_error(UnknownName, ["ann"], House, R1, R0, servers=SERVERS, customers=only, rooms=1)
        self.check_error(UnknownName, ["bob"], House, R0, R1, servers=SERVERS, customers=only)
        self.check_error(UnknownName, ["bob"], House, R2, R1, R0, servers=SERVERS, customers=[("ann", None, 1, [])])
        two = tree_of("two", Place("b", "sa", "a", customer="zoe"), Place("c", "sa", "a", customer="abe"))
        self.check_error(UnknownName, ["zoe"], House, two, servers=SERVERS)
        self.check_error(UnknownName, ["abe"], House, two, servers=SERVERS, customers=[("zoe", None, 1, [])])
        self.check_same(House(two, servers=SERVERS, customers=[("zoe", None, 1, []), ("abe", None, 1, [])]).rules(), ["two"])


class BadRooms(Case):
    def test_no_list(self):
        for value in NO_LISTS:
            self.check_error(InvalidRoom, [-1], house, rooms=value)

    def test_items(self):
        for value in NOT_NUMBERS + [5, ("bar",), ("bar", "sa", "sa"), ["bar", "sa"], ("bar", "sz"), ("bar", "hall"), "ab"]:
            self.check_error(InvalidRoom, [0], house, rooms=[value])
            self.check_error(InvalidRoom, [3], house, rooms=ROOMS + [value, value])
            self.check_error(InvalidRoom, [3], house, rooms=tuple(ROOMS) + (value,))

    def test_names_and_servers(self):
        for value in NO_NAMES:
            self.check_error(InvalidRoom, [1], house, rooms=[("hall", "sa"), (value, "sa")])
            self.check_error(InvalidRoom, [1], house, rooms=[("hall", "sa"), ("bar", value)])
        self.check_error(InvalidRoom, [1], house, rooms=[("hall", "sa"), ("hall", "sa")])
        self.check_error(InvalidRoom, [3], house, rooms=ROOMS + [("hall", "sb"), None])

    def test_counts(self):
        rows = [(f"o{k}", "sa") for k in range(9)]
        self.check_same(house(rooms=rows[:6]).rooms("sa"), [name for name, _ in rows[:6]])
        for many in (7, 9):
            self.check_error(TooMany, ["rooms", many], house, rooms=rows[:many])
        self.check_error(InvalidRoom, [7], house, rooms=rows[:7] + [("o0", "sa")])


class TheOrder(Case):
    """Each error comes ahead of those that are listed behind it."""

    def test_each_error_with_all_later_ones(self):
        many_servers = [(f"s{k}", 0) for k in range(7)]
        many_trees = [tree_of(f"t{k}") for k in range(13)]
        many_customers = [(f"c{k}", None, 1, []) for k in range(13)]
        many_rooms = [(f"o{k}", "sa") for k in range(7)]
        rows = [
            (InvalidServer, [-1], "servers", None),
            (InvalidServer, [7], "servers", many_servers + [None]),
            (TooMany, ["servers", 7], "servers", many_servers),
            (InvalidTree, [13], "trees", many_trees + [None]),
            (TooMany, ["rules", 13], "trees", many_trees),
            (InvalidCustomer, [-1], "customers", None),
            (InvalidCustomer, [13], "customers", many_customers + [None]),
            (TooMany, ["customers", 13], "customers", many_customers),
            (UnknownName, ["ann"], "trees", [R1]),
            (InvalidRoom, [-1], "rooms", None),
            (InvalidRoom, [7], "rooms", many_rooms + [None]),
            (TooMany, ["rooms", 7], "rooms", many_rooms),
        ]
        for at, (error, values, key, worth) in enumerate(rows):
            named = {"servers": SERVERS, "trees": [], "customers": [], "rooms": []}
            named[key] = worth
            self.check_error(error, values, house, **named)
            for _, _, other, spoilt in rows[at + 1:]:
                if other != key:
                    self.check_error(error, values, house, **{**named, other: spoilt})


if __name__ == "__main__":
    unittest.main()
