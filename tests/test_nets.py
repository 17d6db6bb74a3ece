"""Nets: ways, dists and kappas, against a slow search, and wrong rows."""

import itertools
import random
import unittest

from netting import EXAMPLE, RESTS, WIDE, some_rows
from support import NOT_NUMBERS, Case

from surelet.errors import InvalidNumber, InvalidRest, InvalidRow, TooMany, UnknownName
from surelet.nets import Net
from surelet.rests import Rest, Window
from surelet.rules import Rule
from surelet.trees import Place, Tree
from surelet.words import is_name

ROWS = [("a", None, 1, 0), ("b", "a", 2, 3), ("c", "b", 0, 100)]
CALLS = ("way", "dist", "kappa", "kappa_place")


def slow_way(rows, name, other):
    """The way between two places, by a search over all ways along edges."""
    edges = {row[0]: [row[1]] * (row[1] is not None) + [one[0] for one in rows if one[1] == row[0]] for row in rows}
    ways = [[name]]
    while ways[0][-1] != other:
        first = ways.pop(0)
        ways += [first + [place] for place in edges[first[-1]] if place not in first]
    return ways[0]


def slow_dist(rows, name, other):
    delays = {frozenset((row[0], row[1])): row[3] for row in rows}
    way = slow_way(rows, name, other)
    return sum(delays[frozenset(edge)] for edge in zip(way, way[1:]))


def slow_kappa(rows, name, other):
    """The numbers of [37] for each place that counts, the nearest one first."""
    errors, found, place = {row[0]: row[2] for row in rows}, [], name
    elders = {row[0]: row[1] for row in rows}
    while place is not None:
        found.append((-1 if place == other else 2 * errors[place] + slow_dist(rows, place, other), place))
        place = elders[place]
    return found


class Nets(Case):
    def test_the_example(self):
        net = EXAMPLE
        self.check_same([net.names(), net.errors()], [["a", "b", "c"], {"a": 0, "b": 1, "c": 1}])
        self.check_same([net.way("b", "c"), net.dist("b", "c")], [["b", "a", "c"], 5])
        self.check_same([net.kappa("b", "c"), net.kappa_place("b", "c")], [2, "a"])
        self.check_same([net.kappa("b", "b"), net.kappa_place("b", "b")], [-1, "b"])
        self.check_same([net.kappa("b", "a"), net.kappa_place("b", "a")], [-1, "a"])
        self.check_same([net.kappa("a", "b"), net.kappa_place("a", "b")], [3, "a"])
        self.check_same([net.kappa(name="c", other="b"), net.kappa_place(name="c", other="b")], [3, "a"])
        self.check_same([net.way(name="a", other="a"), net.dist(name="c", other="a")], [["a"], 2])

    def test_a_place_above_with_a_better_clock(self):
        # By b itself it is 2 * 9 + 2, by a 2 * 1 + 0.
        self.check_same([WIDE.kappa("b", "d"), WIDE.kappa_place("b", "d")], [2, "a"])
        self.check_same([WIDE.kappa("c", "e"), WIDE.kappa_place("c", "e")], [7, "c"])

    def test_rows(self):
        rest = Window(4)
        net = Net(*ROWS, rest=rest)
        self.assertIs(net.rest, rest)
        self.check_same([net.elder_of(name) for name in "abc"], [None, "a", "b"])
        self.check_same([net.error_of(name) for name in "abc"], [1, 2, 0])
        self.check_same([net.delay_of(name) for name in "abc"], [0, 3, 100])
        self.check_same([net.elder_of(name="c"), net.error_of(name="c"), net.delay_of(name="c")], ["b", 0, 100])
        self.check_same(list(net.errors().items()), [("a", 1), ("b", 2), ("c", 0)])
        order = Net(("z", None, 0, 0), ("y", "z", 5, 0), ("a", "z", 3, 0), rest=rest)
        self.check_same([order.names(), list(order.errors().items())], [["z", "y", "a"], [("z", 0), ("y", 5), ("a", 3)]])
        self.check_same(Net(("a", None, 100, 0), ("b", "a", 100, 100), rest=rest).dist("a", "b"), 100)

    def test_equal_numbers_go_to_the_nearest_place(self):
        # From b to c: by b itself 2 * 1 + 4, by a 2 * 2 + 2.
        net = Net(("a", None, 2, 0), ("b", "a", 1, 2), ("c", "a", 0, 2), rest=Window(3))
        self.check_same([net.kappa("b", "c"), net.kappa_place("b", "c")], [6, "b"])
        net = Net(("a", None, 0, 0), ("b", "a", 0, 0), ("c", "b", 0, 0), ("d", "a", 0, 0), rest=Window(3))
        self.check_same([net.kappa("c", "d"), net.kappa_place("c", "d")], [0, "c"])

    def test_every_pair_against_a_slow_search(self):
        ties = 0
        for seed in range(60):
            chance = random.Random(seed)
            rows = some_rows(chance, 12)
            net = Net(*rows, rest=chance.choice(RESTS))
            for name, other in itertools.product(net.names(), repeat=2):
                self.check_same(net.way(name, other), slow_way(rows, name, other))
                self.check_same(net.dist(name, other), slow_dist(rows, name, other))
                found = slow_kappa(rows, name, other)
                least = min(found, key=lambda pair: pair[0])
                self.check_same((net.kappa(name, other), net.kappa_place(name, other)), least)
                ties += len([pair for pair in found if pair[0] == least[0]]) > 1
        self.assertGreater(ties, 20)

    def test_told_lists_are_new(self):
        net = Net(*ROWS, rest=Window(4))
        net.names().clear()
        net.errors().clear()
        net.way("a", "c").clear()
        self.check_same([net.names(), net.errors(), net.way("a", "c")],
                        [["a", "b", "c"], {"a": 1, "b": 2, "c": 0}, ["a", "b", "c"]])

    def test_trees(self):
        net = Net(*ROWS, rest=Window(4))
        for chips in (1, 7, 1000):
            wanted = Tree(Rule("net", chips, Window(4)), Place("a", "a"), Place("b", "b", "a"), Place("c", "c", "b"))
            self.assertTrue(net.tree_of(chips) == wanted)
        self.assertTrue(net.tree_of(chips=2) == net.tree_of(2))
        for chips in NOT_NUMBERS + [0, 1001, -1]:
            self.check_error(InvalidNumber, [chips], net.tree_of, chips)
        self.check_same(len(Net(*chain(12), rest=Window(4)).tree_of(3)), 12)


def chain(count):
    """Rows of places one beneath the other."""
    return [(f"n{at}", f"n{at - 1}" if at else None, 0, 1 if at else 0) for at in range(count)]


class Wrong(Case):
    def test_rests(self):
        for rest in NOT_NUMBERS + [5]:
            if not isinstance(rest, Rest):
                self.check_error(InvalidRest, [rest], Net, *ROWS, rest=rest)
                self.check_error(InvalidRest, [rest], Net, rest=rest)
                self.check_error(InvalidRest, [rest], Net, *[None] * 13, rest=rest)

    def test_how_many(self):
        self.check_error(InvalidRow, [-1], Net, rest=Window(4))
        self.check_same(len(Net(*chain(1), rest=Window(4)).names()), 1)
        self.check_same(len(Net(*chain(12), rest=Window(4)).names()), 12)
        for count in (13, 14, 30):
            self.check_error(TooMany, ["places", count], Net, *chain(count), rest=Window(4))
            self.check_error(TooMany, ["places", count], Net, *[None] * count, rest=Window(4))

    def wrong(self, at, value):
        """The row with this index is wrong, alone and ahead of others."""
        rows = ROWS[:at] + [value] + ROWS[at + 1:]
        self.check_error(InvalidRow, [at], Net, *rows, rest=Window(4))
        self.check_error(InvalidRow, [at], Net, *rows, None, (), rest=Window(4))

    def test_rows_of_other_forms(self):
        for at in range(3):
            for value in NOT_NUMBERS + [5, ROWS[at][:3], ROWS[at] + (1,), list(ROWS[at]), (ROWS[at],)]:
                self.wrong(at, value)

    def test_each_item(self):
        for at, (name, elder, error, delay) in enumerate(ROWS):
            for value in NOT_NUMBERS + [5, "A", "abcdefghi", "1"]:
                if not is_name(value):
                    self.wrong(at, (value, elder, error, delay))
            for value in NOT_NUMBERS + [-1, 101]:
                self.wrong(at, (name, elder, value, delay))
                self.wrong(at, (name, elder, error, value))
            for value in NOT_NUMBERS + [5, "zz", name]:
                if value != elder and not (at == 2 and value == "a"):
                    self.wrong(at, (name, value, error, delay))
        self.wrong(0, ("a", None, 1, 1))
        self.wrong(1, ("b", None, 2, 3))
        self.wrong(1, ("a", "a", 2, 3))
        self.wrong(2, ("b", "a", 2, 3))
        self.wrong(1, ("b", "c", 2, 3))
        self.wrong(1, ("b", "b", 2, 3))

    def test_several_at_once(self):
        bad = ("b", "a", 101, 3)
        self.check_error(InvalidRow, [0], Net, bad, bad, bad, rest=Window(4))
        self.check_error(InvalidRow, [1], Net, ROWS[0], bad, bad, rest=Window(4))
        # The name of a wrong row does not stand ahead either, but the wrong row itself is the first one.
        self.check_error(InvalidRow, [1], Net, ROWS[0], bad, ROWS[2], rest=Window(4))

    def test_unknown_places(self):
        net = Net(*ROWS, rest=Window(4))
        for value in NOT_NUMBERS + [5, "zz", "A"]:
            if value == "a":
                continue
            for call in (net.elder_of, net.error_of, net.delay_of):
                self.check_error(UnknownName, [value], call, value)
            for word in CALLS:
                self.check_error(UnknownName, [value], getattr(net, word), value, "a")
                self.check_error(UnknownName, [value], getattr(net, word), "a", value)
                self.check_error(UnknownName, [value], getattr(net, word), value, "yy")
                self.check_error(UnknownName, ["yy"], getattr(net, word), "yy", value)


if __name__ == "__main__":
    unittest.main()
