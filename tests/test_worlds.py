"""Worlds: each kind of event, what is refused, and what a world tells."""

import copy
import inspect
import unittest
from unittest import mock

from running import all_of
from support import NOT_NUMBERS, Case, facts

from surelet.answers import Behind, No, Waits, Yes
from surelet.errors import (
    BadMoment, BadReading, Elsewhere, Fallen, InvalidCut, InvalidEvent, InvalidNumber, InvalidParts, NoElder,
    NoSuchLetter, NotFallen, NotHeld, Over, UnknownLoan, UnknownLot, UnknownName, WrongLetter,
)
from surelet.houses import House
from surelet.rests import Window
from surelet.rules import Rule
from surelet.servers import Server
from surelet.trees import Place, Tree
from surelet.words import is_name
from surelet.worlds import World

P = Tree(Rule("p", 6, Window(10)), Place("a", "sa"), Place("b", "sb", "a"), Place("m", "sb", "b", memory=True),
         Place("c", "sc", "b"))
Q = Tree(Rule("q", 3, Window(5)), Place("a", "sa"), Place("e", "sa", "a"))
HOUSE = House(
    Q, P, servers=[("sa", 1), ("sb", 2), ("sc", 0), ("sd", 3)],
    customers=[("firm", None, 2, ["p"]), ("ann", "firm", 1, ["q"]), ("bob", None, 1, ["p"]), ("cid", None, 4, [])],
    rooms=[("hall", "sa"), ("desk", "sb"), ("attic", "sb")],
)
LEND = ("lend", "p", "b", 1, 2, 40)


def deed(moment, server, *items):
    """An event deed."""
    return ("deed", moment, server, items)


def lent():
    """A world at the moment 5: letter 0 was carried, 1 was lost, 2 is on its way; sd has fallen."""
    world = World(HOUSE)
    world.do(deed(1, "sa", "lend", 1, "p", "a", "b", 2, 40, None))
    world.do(deed(2, "sb", "carry", 3, 0))
    world.do(deed(2, "sb", "lend", 1, "p", "b", "c", 1, 30, 1))
    world.do(("lose", 1))
    world.do(deed(4, "sa", "prolong", 4, "p", 1, 50))
    world.do(("fall", 5, "sd", ()))
    return world


class WorldCase(Case):
    def refused(self, world, error, values, event):
        """The event raises this error, and nothing of the world is changed."""
        ahead = all_of(world)
        self.check_error(error, values, world.do, event)
        self.check_same(all_of(world), ahead)


class Events(WorldCase):
    def test_a_new_one(self):
        world = World(HOUSE)
        self.assertIs(world.house, HOUSE)
        self.check_same([world.now, world.letters(), world.events(), world.over()], [0, [], [], []])
        for rule in ("p", "q"):
            self.check_same([world.uses(rule), world.fullest(rule)], [[], (0, None)])
        for name in HOUSE.servers():
            self.check_same(world.server_of(name).disk().areas(), Server(HOUSE, name).disk().areas())
        self.check_same(facts(world.server_of("sa").purse("p")), facts(Server(HOUSE, "sa").purse("p")))
        self.assertIsInstance(inspect.getattr_static(World, "now"), property)

    def test_rows(self):
        for rows in NOT_NUMBERS + [0, -1, 65, 10 ** 9]:
            self.check_error(InvalidNumber, [rows], World, HOUSE, rows=rows)
        for rows in (1, 64):
            world = World(house=HOUSE, rows=rows)
            for moment in range(9):
                world.do(deed(moment, "sa", "tick", moment))
            # The low of the first two moments is 0 both times, so there are 7 records, the first of them without a check.
            self.check_same(world.server_of("sa").syncs, 6 if rows == 1 else 0)
            self.check_same(world.copy().server_of("sa").disk().unsynced()[0][2].split(" ")[0], "row")

    def test_deeds_return_what_the_server_returns(self):
        world, server = World(HOUSE), Server(HOUSE, "sa")
        for told in (("lend", 1, "p", "a", "b", 2, 40, None), ("lend", 1, "q", "a", "e", 1, 20, 0), ("tick", 2),
                     ("use", 2, "q", "e", 1, 2), ("use", 2, "q", "e", 1, None), ("request", 3, "ann", 1),
                     ("request", 3, "ann", 9), ("enter", 3, "hall", "bob", 9, 30), ("enter", 3, "hall", "bob", 1, None),
                     ("prolong", 4, "p", 1, 50), ("recall", 5, "q", "e", 1), ("lend", 5, "q", "a", "e", 1, None, None),
                     ("give", 6, "q", "e", 2, [(0, 1)]), ("tick", 60)):
            try:
                wanted = server.do(told)
            except Exception as error:
                self.check_error(type(error), [value for key, value in vars(error).items() if key != "code"],
                                 world.do, deed(told[1], "sa", *told))
            else:
                self.check_same(world.do(event=deed(told[1], "sa", *told)), wanted)
        self.check_same(facts(world.server_of("sa").purse("p")), facts(server.purse("p")))

    def test_each_other_event(self):
        world = World(HOUSE)
        self.check_same(world.do(deed(1, "sa", "lend", 1, "p", "a", "b", 2, 40, None)), (1, LEND))
        self.check_same(world.do(deed(2, "sb", "carry", 4, 0)), True)
        self.check_same(world.do(deed(2, "sb", "carry", 0, 0)), False)
        self.assertIsNone(world.do(("lose", 0)))
        self.check_same(world.letters(), [None])
        self.assertIsNone(world.do(("fall", 3, "sb", ("lost", "kept"))))
        self.check_same(world.server_of("sb").fallen, True)
        self.assertIsNone(world.do(("wake", 3, "sb", 5)))
        self.check_same([world.server_of("sb").fallen, world.server_of("sb").purse("p").past], [False, 3])
        self.assertIsNone(world.do(("crash", 4, "sb", ("tick", 4), ["kept"])))
        self.check_same([world.server_of("sb").fallen, world.now], [True, 4])
        self.assertIsNone(world.do(("wake", 9, "sb", 7)))
        self.assertIsNone(world.do(("crash", 9, "sa", ("lend", 9, "p", "a", "b", 1, 40, None), ())))
        self.check_same([world.letters(), world.now, world.over()], [[None], 9, []])

    def test_a_crash_that_carries(self):
        world = World(HOUSE)
        world.do(deed(1, "sa", "lend", 1, "p", "a", "b", 2, 40, None))
        world.do(("crash", 2, "sb", ("carry", 3, 0), ["kept", "kept"]))
        world.do(("wake", 2, "sb", 3))
        self.check_same(world.server_of("sb").purse("p").lots("b"), [(1, 40, None, 2, (), (), 0)])

    def test_falls_have_their_cut(self):
        for cut, past in (((), 0), (["kept"], 2), (("torn",), 0), (["lost", "kept"], 0), (("kept", "kept"), 3)):
            world = World(HOUSE)
            world.do(deed(4, "sb", "tick", 4))
            world.do(deed(4, "sb", "tick", 5))
            world.do(("fall", 4, "sb", cut))
            world.do(("wake", 4, "sb", 2))
            self.check_same(world.server_of("sb").purse("p").past, past)

    def test_letters_come_late_twice_and_overtaken(self):
        world = lent()
        self.check_same(world.do(deed(6, "sb", "carry", 6, 2)), True)
        self.check_same(world.do(deed(6, "sb", "carry", 6, 2)), False)
        world.do(deed(7, "sa", "lend", 7, "p", "a", "b", 1, 60, None))
        world.do(deed(7, "sa", "prolong", 7, "p", 2, 70))
        # The later letter is first: it finds no lot yet, and is carried once more behind the other one.
        self.check_same(world.do(deed(8, "sb", "carry", 8, 4)), False)
        self.check_same(world.do(deed(8, "sb", "carry", 8, 3)), True)
        self.check_same(world.do(deed(8, "sb", "carry", 8, 4)), True)
        self.check_same([lot[:2] for lot in world.server_of("sb").purse("p").lots("b")], [(1, 50), (2, 70)])
        self.check_same(world.do(deed(90, "sb", "carry", 90, 3)), False)

    def test_moments_stay_or_grow(self):
        world = lent()
        self.check_same(world.now, 5)
        world.do(deed(5, "sa", "tick", 5))
        world.do(("lose", 0))
        self.check_same(world.now, 5)
        world.do(("wake", 6, "sd", 6))
        self.check_same(world.now, 6)
        world.do(("crash", 7, "sd", ("tick", 7), ()))
        self.check_same(world.now, 7)
        world.do(("fall", 8, "sa", ()))
        self.check_same(world.now, 8)


class Refusals(WorldCase):
    def test_values_that_are_no_events(self):
        world = lent()
        good = [deed(5, "sa", "tick", 5), ("lose", 2), ("fall", 5, "sa", ()), ("wake", 5, "sd", 5),
                ("crash", 5, "sa", ("tick", 5), ())]
        values = NOT_NUMBERS + [5, "deed", ("deed",), ("lose",)]
        for event in good:
            values += [event[:-1], event + (1,), list(event), (event,), event[1:], ("Deed",) + event[1:],
                       ([],) + event[1:], (None,) + event[1:], ("carry",) + event[1:], ("tick",) + event[1:]]
        values += [("lose", 0, 0), ("wake", 5, "sd", 5, ()), ("fall", 5, "sa"), ("deed", 5, "sa", ("tick", 5), ())]
        for value in values:
            self.refused(world, InvalidEvent, [value], value)

    def test_moments_servers_indexes_and_readings_of_other_kinds(self):
        world = lent()
        for value in NOT_NUMBERS + [-1, -10 ** 9]:
            for event in (deed(value, "sa", "tick", 5), ("fall", value, "sa", ()), ("wake", value, "sd", 5),
                          ("crash", value, "sa", ("tick", 5), ())):
                self.refused(world, InvalidEvent, [event], event)
        for value in NOT_NUMBERS + [5, "A", "abcdefghi", "1a"]:
            for event in (deed(5, value, "tick", 5), ("fall", 5, value, ()), ("wake", 5, value, 5),
                          ("crash", 5, value, ("tick", 5), ())):
                if not is_name(value):
                    self.refused(world, InvalidEvent, [event], event)
        for value in NOT_NUMBERS:
            for event in (("lose", value), ("wake", 5, "sd", value)):
                self.refused(world, InvalidEvent, [event], event)

    def test_values_that_are_no_deeds(self):
        world = lent()
        for value in NOT_NUMBERS + [5, "tick", ("tick",), ["tick", 5], ("tick", True), ("tick", 5, 5), ("carry", 5, None),
                                    ("receive", 5, LEND), ("settle", 5), deed(5, "sa", "tick", 5), ("lose", 0)]:
            for event in (("deed", 5, "sa", value), ("crash", 5, "sa", value, ())):
                self.refused(world, InvalidEvent, [event], event)

    def test_any_value_as_a_cut(self):
        world = lent()
        for cut in NOT_NUMBERS + [5]:
            if not isinstance(cut, (list, tuple)):
                self.refused(world, InvalidCut, [-1], ("fall", 5, "sa", cut))
                self.refused(world, InvalidCut, [-1], ("crash", 5, "sa", ("tick", 5), cut))
        for word in NOT_NUMBERS + [5, "keep"]:
            self.refused(world, InvalidCut, [1], ("fall", 5, "sa", ["kept", word, None]))
            self.refused(world, InvalidCut, [9], ("crash", 5, "sa", ("tick", 5), ("torn",) * 9 + (word,)))

    def test_unknown_servers(self):
        world = lent()
        for name in ("zz", "a", "p"):
            for event in (deed(5, name, "tick", 5), ("fall", 5, name, None), ("wake", 5, name, 5),
                          ("crash", 5, name, ("tick", 5), None)):
                self.refused(world, UnknownName, [name], event)
        for name in NOT_NUMBERS + [5, "zz"]:
            self.check_error(UnknownName, [name], world.server_of, name)

    def test_moments_back(self):
        world = lent()
        for moment in (0, 4):
            for event in (deed(moment, "sa", "tick", moment), ("fall", moment, "sa", ()), ("wake", moment, "sd", 5),
                          ("crash", moment, "sa", ("tick", moment), ())):
                self.refused(world, BadMoment, [moment], event)

    def test_readings_at_the_error_and_beyond(self):
        for name, error in (("sa", 1), ("sb", 2), ("sc", 0)):
            for reading in (20 - error - 1, 20 + error + 1, 0, 99):
                self.refused(lent(), BadReading, [name, reading], deed(20, name, "tick", reading))
                self.refused(lent(), BadReading, [name, reading], ("crash", 20, name, ("tick", reading), ()))
            for reading in (20 - error, 20, 20 + error):
                lent().do(deed(20, name, "tick", reading))
                lent().do(("crash", 20, name, ("tick", reading), ()))
        for reading in (16, 24):
            self.refused(lent(), BadReading, ["sd", reading], ("wake", 20, "sd", reading))
        for reading in (17, 23):
            lent().do(("wake", 20, "sd", reading))
        self.check_same(World(HOUSE).do(deed(0, "sb", "tick", -2)), [])

    def test_letters_that_are_not_there(self):
        world = lent()
        for index in (-1, -2, 1, 3, 99, 10 ** 9):
            self.refused(world, NoSuchLetter, [index], ("lose", index))
            self.refused(world, NoSuchLetter, [index], deed(5, "sa", "carry", 5, index))
            self.refused(world, NoSuchLetter, [index], ("crash", 5, "sa", ("carry", 5, index), ()))

    def test_letters_for_other_servers(self):
        world = lent()
        for index, name in ((0, "sa"), (2, "sc"), (2, "sa")):
            letter = world.letters()[index]
            self.refused(world, WrongLetter, [letter], deed(5, name, "carry", 5, index))
            self.refused(world, WrongLetter, [letter], ("crash", 5, name, ("carry", 5, index), ()))

    def test_servers_that_are_fallen_and_not(self):
        world = lent()
        for event in (deed(5, "sd", "tick", 5), deed(5, "sd", "request", 5, "zz", 0), deed(5, "sd", "carry", 5, 0),
                      ("fall", 5, "sd", None), ("crash", 5, "sd", ("tick", 5), None)):
            self.refused(world, Fallen, ["sd"], event)
        for name in ("sa", "sb", "sc"):
            self.refused(world, NotFallen, [name], ("wake", 5, name, 5))

    def test_readings_below_past(self):
        world = lent()
        world.do(deed(9, "sb", "tick", 11))
        world.do(deed(13, "sb", "tick", 15))
        self.refused(world, BadReading, ["sb", 10], deed(12 + 1, "sb", "tick", 10))
        world.do(("fall", 20, "sb", ["kept", "kept", "kept", "kept"]))
        world.do(("wake", 20, "sb", 22))
        self.check_same(world.do(deed(20, "sb", "tick", 18)), [])
        world.do(deed(24, "sb", "use", 26, "p", "b", 1, None))
        world.do(("fall", 24, "sb", ()))
        self.check_same(world.do(("wake", 24, "sb", 22)), None)

    def test_what_the_server_raises(self):
        world = lent()
        world.do(deed(5, "sb", "enter", 5, "desk", "bob", 2, 60))
        for name, told, error, values in (
            ("sa", ("use", 5, "zz", "a", 1, None), UnknownName, ["zz"]),
            ("sa", ("use", 5, "p", "b", 1, None), UnknownName, ["b"]),
            ("sa", ("use", 5, "p", "a", 7, None), NotHeld, ["a", 7]),
            ("sa", ("use", 5, "p", "a", 1, 9), UnknownLot, ["a", 9]),
            ("sa", ("lend", 5, "p", "a", "b", 1, None, None), Over, [None]),
            ("sa", ("prolong", 5, "p", 9, 90), UnknownLoan, [9]),
            ("sa", ("give", 5, "p", "a", 0, ((0, 1),)), NoElder, ["a"]),
            ("sb", ("give", 5, "p", "b", 1, None), InvalidParts, [None]),
            ("sb", ("recall", 5, "p", "b", 1), NoElder, ["b"]),
            ("sa", ("request", 5, "zz", 1), UnknownName, ["zz"]),
            ("sa", ("request", 5, "ann", 0), InvalidNumber, [0]),
            ("sb", ("enter", 5, "hall", "ann", 1, None), UnknownName, ["hall"]),
            ("sb", ("enter", 5, "attic", "bob", 1, 9), Elsewhere, ["desk"]),
            ("sb", ("enter", 5, "desk", "ann", 1, 4), Over, [4]),
        ):
            self.refused(world, error, values, ("deed", 5, name, told))
            self.refused(world, error, values, ("crash", 5, name, told, None))

    def test_two_errors_at_once(self):
        """Each error, with all those behind it in their order."""
        world = lent()
        bad = ("use", 99, "zz", None, 1, None)
        self.refused(world, InvalidEvent, [("deed", 0, "zz", bad)], ("deed", 0, "zz", bad))
        for name, moment, reading, told, error, values in (
            ("zz", 0, 99, ("carry", 7), UnknownName, ["zz"]),
            ("sd", 0, 99, ("carry", 7), BadMoment, [0]),
            ("sd", 5, 99, ("carry", 7), BadReading, ["sd", 99]),
            ("sd", 5, 5, ("carry", 7), NoSuchLetter, [7]),
            ("sd", 5, 5, ("carry", 0), Fallen, ["sd"]),
            ("sa", 5, 5, ("carry", 0), WrongLetter, [LEND]),
        ):
            word, *items = told
            self.refused(world, error, values, deed(moment, name, word, reading, *items))
            self.refused(world, error, values, ("crash", moment, name, (word, reading, *items), None))
        for name, moment, error, values in (
            ("zz", 0, UnknownName, ["zz"]), ("sd", 0, BadMoment, [0]), ("sd", 5, Fallen, ["sd"]),
            ("sa", 5, InvalidCut, [-1]),
        ):
            self.refused(world, error, values, ("fall", moment, name, None))
        for name, moment, reading, error, values in (
            ("zz", 0, 99, UnknownName, ["zz"]), ("sa", 0, 99, BadMoment, [0]), ("sa", 5, 99, BadReading, ["sa", 99]),
            ("sa", 5, 5, NotFallen, ["sa"]),
        ):
            self.refused(world, error, values, ("wake", moment, name, reading))


class Told(WorldCase):
    def test_uses_of_each_kind(self):
        world = World(HOUSE)
        self.assertIsInstance(world.do(deed(1, "sa", "request", 1, "ann", 2)), Yes)
        self.check_same(world.do(deed(1, "sa", "request", 2, "ann", 2)), No("q", 1, 2))
        world.do(deed(2, "sa", "use", 1, "q", "a", 1, None))
        world.do(deed(2, "sa", "request", 2, "cid", 5))
        self.assertIsInstance(world.do(deed(2, "sa", "enter", 2, "hall", "bob", 2, None)), Yes)
        self.check_same(world.do(deed(2, "sa", "enter", 2, "hall", "firm", 3, 40)), Waits("hall"))
        self.check_same(world.do(deed(2, "sa", "enter", 2, "hall", "bob", 1, None)), Behind("firm"))
        self.check_same(world.do(deed(2, "sa", "enter", 2, "hall", "bob", 2, 40)), Waits("hall"))
        self.check_same(world.do(deed(2, "sa", "enter", 2, "hall", "ann", 1, 40)), Waits("hall"))
        self.check_same(world.uses("p"), [(1, 2), (2, 2)])
        self.check_same(world.uses("q"), [(1, 2), (2, 1)])
        served = world.do(deed(30, "sa", "tick", 30))
        self.check_same([customer for _, customer, _ in served], ["ann", "firm", "bob"])
        self.check_same(world.uses(rule="p"), [(1, 2), (2, 2), (30, 1), (30, 3), (30, 2)])
        self.check_same(world.uses("q"), [(1, 2), (2, 1), (30, 1)])

    def test_a_payment_from_several_places_is_one_use(self):
        world = World(HOUSE)
        world.do(deed(0, "sa", "lend", 0, "q", "a", "e", 1, None, None))
        answer = world.do(deed(1, "sa", "request", 1, "ann", 3))
        self.check_same([row[:2] for row in answer.paid], [("p", "a"), ("q", "a"), ("q", "e")])
        self.check_same([world.uses("p"), world.uses("q")], [[(1, 3)], [(1, 3)]])

    def test_nothing_of_a_crash_or_of_a_refused_event(self):
        world = World(HOUSE)
        world.do(("crash", 1, "sa", ("request", 1, "ann", 2), ["kept"] * 9))
        self.check_same([world.uses("p"), world.uses("q"), world.letters()], [[], [], []])
        world.do(("wake", 1, "sa", 1))
        self.assertLess(world.server_of("sa").purse("q").ready_chips, 3)
        self.refused(world, NotHeld, ["a", 9], deed(2, "sa", "use", 2, "p", "a", 9, None))
        world.do(("crash", 2, "sa", ("lend", 2, "p", "a", "b", 1, 40, None), ()))
        self.check_same([world.uses("p"), world.letters()], [[], []])

    def test_fullest_has_the_least_start(self):
        world = World(HOUSE)
        for moment, n in ((1, 1), (4, 2), (12, 1), (15, 2), (30, 3)):
            world.do(deed(moment, "sa", "use", moment, "p", "a", n, None))
        # There are 3 from 1 on, from 4 on, from 12 on and from 30 on.
        self.check_same(world.fullest("p"), (3, 1))
        world.do(deed(42, "sa", "use", 42, "p", "a", 4, None))
        self.check_same(world.fullest(rule="p"), (4, 42))
        self.check_same(world.fullest("q"), (0, None))

    def test_over(self):
        world = World(HOUSE)
        world.do(deed(0, "sa", "request", 0, "ann", 3))
        self.check_same(world.over(), [])
        for uses, over in (({"p": [(0, 7)]}, ["p"]), ({"q": [(0, 2), (4, 2)], "p": [(3, 4), (12, 3)]}, ["p", "q"]),
                           ({"q": [(0, 2), (5, 2)]}, []), ({"q": [(5, 3), (4, 1)]}, ["q"])):
            with mock.patch.object(World, "uses", lambda self, rule, told=uses: told.get(rule, [])):
                self.check_same(world.over(), over)

    def test_letters_with_none_for_lost_ones(self):
        world = lent()
        extend = ("extend", "p", "b", 1, 50)
        self.check_same(world.letters(), [LEND, None, extend])
        world.do(("lose", 2))
        self.check_same(world.letters(), [LEND, None, None])
        world.do(deed(5, "sb", "give", 5, "p", "b", 1, [(0, 1)]))
        self.check_same(world.letters(), [LEND, None, None, ("back", "p", "b", 1, 1, ((0, 1),))])

    def test_events_with_the_cut_as_it_was_handed_in(self):
        world = World(HOUSE)
        cut, parts = ["kept"], [(0, 1)]
        done = [deed(1, "sa", "lend", 1, "q", "a", "e", 2, None, None), ("deed", 1, "sa", ("give", 1, "q", "e", 1, parts)),
                ("fall", 2, "sa", cut), ("wake", 2, "sa", 2), ("fall", 2, "sa", ("lost", "torn")), ("wake", 3, "sa", 3),
                ("crash", 3, "sa", ("give", 3, "q", "e", 1, parts), cut), ("wake", 3, "sa", 3),
                deed(3, "sb", "tick", 3)]
        copies = [deed(1, "sa", "lend", 1, "q", "a", "e", 2, None, None), deed(1, "sa", "give", 1, "q", "e", 1, [(0, 1)]),
                  ("fall", 2, "sa", ["kept"]), ("wake", 2, "sa", 2), ("fall", 2, "sa", ("lost", "torn")),
                  ("wake", 3, "sa", 3), ("crash", 3, "sa", ("give", 3, "q", "e", 1, [(0, 1)]), ["kept"]),
                  ("wake", 3, "sa", 3), deed(3, "sb", "tick", 3)]
        for event in done[:2]:
            world.do(event)
        world.do(deed(1, "sa", "tick", 1))
        world.do(done[2])
        self.check_same(world.events(), copies[:2] + [deed(1, "sa", "tick", 1)] + copies[2:3])
        other = World(HOUSE)
        other.do(copies[0])
        other.do(deed(1, "sa", "lend", 1, "p", "a", "b", 1, 40, None))
        for event in done[2:]:
            other.do(event)
        self.check_same(other.events()[2:], copies[2:])
        cut.append("torn")
        parts.clear()
        self.check_same(other.events()[2:], copies[2:])
        self.check_same(world.events()[1], copies[1])

    def test_told_lists_may_be_spoilt(self):
        world = lent()
        world.do(deed(5, "sa", "use", 5, "p", "a", 1, None))
        world.do(deed(5, "sa", "lend", 5, "q", "a", "e", 1, None, None))
        world.do(deed(5, "sa", "give", 5, "q", "e", 1, [(0, 1)]))
        world.do(("fall", 5, "sc", ["kept"]))
        ahead = copy.deepcopy(all_of(world))
        for told in (world.letters(), world.uses("p"), world.over()):
            told.append(7)
            told.clear()
        world.events()[-1][3].clear()
        world.events()[-2][3][5].clear()
        world.events().clear()
        self.check_same(all_of(world), ahead)

    def test_unknown_rules(self):
        world = lent()
        for rule in NOT_NUMBERS + [5, "zz", "b"]:
            self.check_error(UnknownName, [rule], world.uses, rule)
            self.check_error(UnknownName, [rule], world.fullest, rule)


if __name__ == "__main__":
    unittest.main()
