"""Places and trees of places."""

import inspect
import itertools
import unittest

from support import NOT_NUMBERS, OTHERS, RULE, Case

from surelet.errors import BadTree, InvalidName, InvalidPlace, InvalidRule, TooMany, UnknownName
from surelet.rests import Window
from surelet.rules import Rule
from surelet.trees import Place, Tree
from surelet.words import is_name

NO_NAMES = [value for value in NOT_NUMBERS if not is_name(value)] + [5, 0, "abcdefghi", "0a", "a b", "Ab"]

FIRST = Place("a", "sa")
PLACES = [
    FIRST,
    Place("b", "sb", "a"),
    Place("m", "sa", "a", memory=True),
    Place("d", "sb", "b", customer="ann"),
    Place("c", "sc", "d"),
    Place("sb", "sa", "a"),
    Place("n", "sb", "d", memory=True, customer="ann"),
    Place("e", "sd", "sb"),
    Place("f", "sc", "c"),
]
PARENTS = {"a": None, "b": "a", "m": "a", "d": "b", "c": "d", "sb": "a", "n": "d", "e": "sb", "f": "c"}


class Places(Case):
    def check_place(self, place, name, server, elder, memory, customer):
        told = (place.name, place.server, place.elder, place.memory, place.customer)
        self.check_same(told, (name, server, elder, memory, customer))

    def test_attributes_and_defaults(self):
        self.check_place(Place("a", "sa"), "a", "sa", None, False, None)
        self.check_place(Place("a", "a", "a"), "a", "a", "a", False, None)
        self.check_place(Place("b", "sb", "a", memory=True, customer="ann"), "b", "sb", "a", True, "ann")
        self.check_place(Place(customer="ann", elder="a", server="sb", name="b"), "b", "sb", "a", False, "ann")
        self.check_place(Place("b", "sb", elder=None, memory=False, customer=None), "b", "sb", None, False, None)

    def test_memory_and_customer_are_keyword_only(self):
        for more in ([True], [True, "ann"]):
            with self.assertRaises(TypeError):
                Place("b", "sb", "a", *more)

    def test_values_that_are_no_names(self):
        for value in NO_NAMES:
            self.check_error(InvalidName, [value], Place, value, "sb", "a", customer="ann")
            self.check_error(InvalidName, [value], Place, "b", value, "a", customer="ann")
            if value is not None:
                self.check_error(InvalidName, [value], Place, "b", "sb", value, customer="ann")
                self.check_error(InvalidName, [value], Place, "b", "sb", "a", customer=value)
                self.check_error(InvalidName, [value], Place, "b", "sb", "a", memory=True, customer=value)

    def test_the_first_value_that_is_no_name(self):
        self.check_error(InvalidName, [1], Place, 1, 2, 3, customer=4)
        self.check_error(InvalidName, [2], Place, "b", 2, 3, customer=4)
        self.check_error(InvalidName, [3], Place, "b", "sb", 3, customer=4)
        self.check_error(InvalidName, [4], Place, "b", "sb", None, customer=4)
        self.check_error(InvalidName, [None], Place, None, None)
        self.check_error(InvalidName, [True], Place, customer=4, server=True, name="b")

    def test_equality(self):
        def places():
            return [
                Place(name, server, elder, memory=memory, customer=customer)
                for name in ("a", "b")
                for server in ("a", "b")
                for elder in (None, "a", "b")
                for memory in (True, False)
                for customer in (None, "a", "b")
            ]

        for (at, one), (index, other) in itertools.product(enumerate(places()), enumerate(places())):
            self.check_same(one == other, at == index)
            self.check_same(one != other, at != index)

    def test_it_equals_nothing_of_another_class(self):
        class Lookalike:
            name, server, elder, memory, customer = "z", "sz", None, False, None

            def __eq__(self, other):
                return True

        for value in OTHERS + ["z", ("z", "sz", None, False, None), Lookalike()]:
            self.check_same(Place("z", "sz") == value, False)


class Trees(Case):
    def setUp(self):
        self.tree = Tree(RULE, *PLACES)

    def test_places(self):
        self.assertIs(self.tree.rule, RULE)
        self.check_same(self.tree.places(), PLACES)
        self.check_same(len(self.tree), 9)
        self.check_same(len(Tree(RULE, FIRST)), 1)
        for place in PLACES:
            self.assertIs(self.tree.place_of(place.name), place)
            self.assertIs(self.tree.place_of(name=place.name), place)

    def test_children(self):
        for place in PLACES:
            wanted = [other.name for other in PLACES if PARENTS[other.name] == place.name]
            self.check_same(self.tree.children(place.name), wanted)
        self.check_same(self.tree.children("a"), ["b", "m", "sb"])
        self.check_same(self.tree.children(name="m"), [])

    def test_ways_up(self):
        self.check_same(list(self.tree.way_up("a")), ["a"])
        self.check_same(list(self.tree.way_up("f")), ["f", "c", "d", "b", "a"])
        self.check_same(list(self.tree.way_up(name="e")), ["e", "sb", "a"])
        self.assertTrue(inspect.isgeneratorfunction(Tree.way_up))

    def test_is_above(self):
        for one, other in itertools.product(PARENTS, PARENTS):
            above, name = [], PARENTS[other]
            while name is not None:
                above.append(name)
                name = PARENTS[name]
            self.check_same(self.tree.is_above(one, other), one in above)
            self.check_same(self.tree.is_above(other=other, name=one), one in above)

    def test_servers_and_tops(self):
        self.check_same(self.tree.servers(), ["sa", "sb", "sc", "sd"])
        wanted = {"sa": "a", "sb": "b", "sc": "c", "sd": "e"}
        for server in wanted:
            self.check_same(self.tree.top(server), wanted[server])
            self.check_same(self.tree.top(server=server), wanted[server])
        other = Tree(RULE, Place("x", "zz"), Place("y", "mm", "x"), Place("w", "aa", "x"), Place("v", "mm", "y"))
        self.check_same(other.servers(), ["zz", "mm", "aa"])
        self.check_same([other.top(server) for server in other.servers()], ["x", "y", "w"])

    def test_a_name_of_a_place_that_is_also_one_of_a_server(self):
        self.check_same(self.tree.top("sb"), "b")
        self.check_same(self.tree.place_of("sb").server, "sa")
        self.check_same("sb" in self.tree, True)
        self.check_same("sc" in self.tree, False)
        self.check_error(UnknownName, ["sc"], self.tree.place_of, "sc")
        self.check_error(UnknownName, ["a"], self.tree.top, "a")
        both = Tree(RULE, Place("a", "a"), Place("b", "a", "a"))
        self.check_same((both.top("a"), both.servers(), both.children("a")), ("a", ["a"], ["b"]))

    def test_in(self):
        for place in PLACES:
            self.check_same(place.name in self.tree, True)
            self.check_same(place in self.tree, False)
        for value in NOT_NUMBERS + [0, 1, "aa", "ann", "sa", "r", ("a",), ["a"], {"a": 1}]:
            if not (isinstance(value, str) and value == "a"):
                self.check_same(value in self.tree, False)

    def test_returned_lists_are_new(self):
        for ask in (self.tree.places, self.tree.servers, lambda: self.tree.children("a")):
            first = ask()
            kept = list(first)
            first.reverse()
            first.append(FIRST)
            self.check_same(ask(), kept)
            first.clear()
            self.check_same(ask(), kept)
        self.check_same((len(self.tree), self.tree.top("sa")), (9, "a"))

    def test_unknown_names(self):
        def first_step(name):
            return next(self.tree.way_up(name))

        for value in NO_NAMES + ["z", "sc", "ann", "aa", ""]:
            for ask in (self.tree.place_of, self.tree.children, first_step):
                self.check_error(UnknownName, [value], ask, value)
            self.check_error(UnknownName, [value], self.tree.is_above, value, "a")
            self.check_error(UnknownName, [value], self.tree.is_above, "a", value)
            self.check_error(UnknownName, [value], self.tree.is_above, value, "z")
            self.check_error(UnknownName, [value], self.tree.is_above, value, None)
        for value in NO_NAMES + ["a", "m", "ann", "se", ""]:
            self.check_error(UnknownName, [value], self.tree.top, value)

    def test_a_generator_raises_when_its_first_item_is_requested(self):
        for value in (None, "z", ["a"]):
            steps = self.tree.way_up(value)
            self.check_error(UnknownName, [value], next, steps)

    def test_equality(self):
        def trees():
            found = [Tree(Rule(name, 2, Window(10)), *PLACES[:many]) for name in ("r", "s") for many in range(1, 10)]
            found.append(Tree(Rule("r", 3, Window(10)), FIRST))
            found.append(Tree(Rule("r", 2, Window(9)), FIRST))
            found.append(Tree(RULE, FIRST, PLACES[2], PLACES[1]))
            found.append(Tree(RULE, Place("a", "sb")))
            return found

        for (at, one), (index, other) in itertools.product(enumerate(trees()), enumerate(trees())):
            self.check_same(one == other, at == index)
            self.check_same(one != other, at != index)

    def test_it_equals_nothing_of_another_class(self):
        class Lookalike:
            rule = RULE

            def places(self):
                return list(PLACES)

            def __eq__(self, other):
                return True

        for value in OTHERS + [RULE, PLACES, tuple(PLACES), Lookalike()]:
            self.check_same(self.tree == value, False)


class Building(Case):
    def check_bad(self, name, *places):
        """The places spoil a tree, and this one is the first that does."""
        self.check_error(BadTree, [name], Tree, RULE, *places)

    def test_rules(self):
        for value in [value for value in NOT_NUMBERS if not isinstance(value, Rule)] + [5, "r 2 window 10"]:
            self.check_error(InvalidRule, [value], Tree, value, FIRST)
            self.check_error(InvalidRule, [value], Tree, value)
            self.check_error(InvalidRule, [value], Tree, value, None, FIRST)
            self.check_error(InvalidRule, [value], Tree, value, *([FIRST] * 25))

    def test_places_that_are_none(self):
        for value in [value for value in NOT_NUMBERS if not isinstance(value, Place)] + [5, [FIRST]]:
            self.check_error(InvalidPlace, [0], Tree, RULE, value)
            self.check_error(InvalidPlace, [1], Tree, RULE, FIRST, value)
            self.check_error(InvalidPlace, [2], Tree, RULE, FIRST, FIRST, value, 5)
            self.check_error(InvalidPlace, [25], Tree, RULE, *([FIRST] * 25), value)
            self.check_error(InvalidPlace, [1], Tree, RULE, Place("b", "sb", "a"), value)

    def test_no_places(self):
        self.check_error(BadTree, [None], Tree, RULE)
        self.check_error(BadTree, [None], Tree, rule=RULE)

    def test_how_many_places(self):
        places = [FIRST] + [Place(f"p{k}", f"s{k // 4}", "a" if k % 4 == 0 else f"p{k - 1}") for k in range(24)]
        tree = Tree(RULE, *places[:24])
        self.check_same((len(tree), tree.places()), (24, places[:24]))
        self.check_error(TooMany, ["places", 25], Tree, RULE, *places)
        self.check_error(TooMany, ["places", 25], Tree, RULE, *([FIRST] * 25))
        self.check_error(TooMany, ["places", 40], Tree, RULE, *([Place("b", "sb", "z")] * 40))
        self.check_bad("a", *([FIRST] * 24))

    def test_a_name_that_stands_ahead(self):
        self.check_bad("a", FIRST, Place("a", "sa", "a"))
        self.check_bad("b", FIRST, Place("b", "sb", "a"), Place("b", "sb", "a"))
        self.check_bad("b", FIRST, Place("b", "sb", "a"), Place("c", "sa", "a"), Place("b", "sc", "c"))
        self.check_bad("a", FIRST, Place("b", "sa", "a"), Place("a", "sa", "b"))

    def test_a_first_place_that_is_none(self):
        self.check_bad("a", Place("a", "sa", "b"), Place("b", "sa", "a"))
        self.check_bad("a", Place("a", "sa", "a"))
        self.check_bad("a", Place("a", "sa", memory=True))
        self.check_bad("a", Place("a", "sa", customer="ann"))

    def test_an_elder_that_does_not_stand_ahead(self):
        self.check_bad("b", FIRST, Place("b", "sa"))
        self.check_bad("b", FIRST, Place("b", "sb", "z"))
        self.check_bad("b", FIRST, Place("b", "sb", "b"))
        self.check_bad("b", FIRST, Place("b", "sa", "sa"))
        self.check_bad("b", FIRST, Place("b", "sb", "c"), Place("c", "sa", "a"))

    def test_an_elder_in_memory(self):
        self.check_bad("c", FIRST, Place("b", "sa", "a", memory=True), Place("c", "sa", "b"))
        self.check_bad("c", FIRST, Place("b", "sa", "a", memory=True), Place("c", "sc", "b"))
        self.check_bad("c", FIRST, Place("b", "sa", "a", memory=True), Place("c", "sa", "b", memory=True))

    def test_a_place_in_memory_with_its_elder_on_another_server(self):
        self.check_bad("b", FIRST, Place("b", "sb", "a", memory=True))
        self.check_bad("b", FIRST, Place("c", "sb", "a"), Place("d", "sa", "a"), Place("b", "sc", "c", memory=True))
        self.assertEqual(len(Tree(RULE, FIRST, Place("b", "sb", "a"), Place("c", "sb", "b", memory=True))), 3)

    def test_a_second_top(self):
        b, c = Place("b", "sb", "a"), Place("c", "sc", "a")
        self.check_bad("d", FIRST, b, Place("d", "sb", "a"))
        self.check_bad("d", FIRST, b, c, Place("d", "sc", "b"))
        self.check_bad("d", FIRST, b, Place("d", "sa", "b"))
        self.assertEqual(len(Tree(RULE, FIRST, b, c, Place("d", "sb", "b"), Place("e", "sb", "d"))), 5)

    def test_the_first_place_counts(self):
        second, unknown = Place("d", "sb", "a"), Place("e", "sb", "z")
        for faults in itertools.permutations([
            second,
            unknown,
            Place("f", "sf", "a", memory=True),
            Place("g", "sa", "m"),
            Place("b", "sb", "b"),
            Place("h", "sh"),
        ], 2):
            places = [FIRST, Place("b", "sb", "a"), Place("m", "sa", "a", memory=True)]
            self.check_bad(faults[0].name, *places, *faults)
            self.check_bad(faults[0].name, *places, faults[0], Place("k", "sa", "a"), faults[1])
        self.check_bad("a", Place("a", "sa", memory=True), Place("a", "sa", "z"))
        self.check_bad("b", Place("b", "sa", "z"), second, unknown)

    def test_drawers_and_places_in_memory_that_may_be(self):
        tree = Tree(RULE, FIRST, Place("b", "sb", "a", customer="ann"), Place("c", "sc", "b"),
                    Place("d", "sc", "c", memory=True), Place("e", "sb", "b", memory=True, customer="bob"))
        self.check_same(tree.servers(), ["sa", "sb", "sc"])
        self.check_same([place.customer for place in tree.places()], [None, "ann", None, None, "bob"])
        self.check_same([place.memory for place in tree.places()], [False, False, False, True, True])


if __name__ == "__main__":
    unittest.main()
