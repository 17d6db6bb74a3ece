"""Purses: new ones, readings, settling, using and paying, the examples, and what stands there to be asked."""

import copy
import inspect
import unittest

from support import NOT_NUMBERS, PurseCase, facts

from surelet.errors import BadReading, InvalidNumber, NotHeld, UnknownLot, UnknownName
from surelet.purses import Purse
from surelet.rests import Days, Next, Window
from surelet.rules import Rule
from surelet.trees import Place, Tree

# a on sa; b, c, the drawer d and the place in memory m on sb; x beneath c on sc.
TREE = Tree(
    Rule("r", 20, Window(10)), Place("a", "sa"), Place("b", "sb", "a"), Place("c", "sb", "b"),
    Place("d", "sb", "b", customer="ann"), Place("m", "sb", "c", memory=True), Place("x", "sc", "c"),
)
SMALL = Tree(Rule("r", 3, Window(10)), Place("a", "sa"), Place("m", "sa", "a", memory=True), Place("b", "sb", "a"))
NO_PLACES = [value for value in NOT_NUMBERS if value != "a"] + [5, "b", "zz"]


def middle(*lends, error=2):
    """The purse of sb, behind letters lend (number, n, end), received at 0."""
    purse = Purse(TREE, "sb", error)
    for number, n, end in lends:
        purse.receive(0, ("lend", "r", "b", number, n, end))
    return purse


class New(PurseCase):
    def test_what_a_new_purse_tells(self):
        purse = Purse(SMALL, "sa", 2)
        self.assertIs(purse.tree, SMALL)
        self.check_same([purse.server, purse.error], ["sa", 2])
        self.check_same(purse.lots("a"), [(0, None, None, 3, (), (), 0)])
        self.check_same(purse.lot("a", 0), (0, None, None, 3, (), (), 0))
        self.check_same([purse.lots("m"), purse.usable("a"), purse.usable("m")], [[], 3, 0])
        self.check_same([purse.payable(), purse.payable([]), purse.payable(("ann", "firm"))], [3, 3, 3])
        self.check_same([purse.ready_chips, purse.past, purse.last_reading, len(purse)], [3, 0, None, 3])
        self.check_same(purse.remembered(), {})
        self.check_same(purse.standing(), (None, (("a", None, None, 3, (), ()),)))
        self.check_same(purse.table(), {"r lot a 0": "- - 3 0", "r next": "1", "r past": "0"})
        self.assertTrue(purse)

    def test_a_new_purse_without_the_first_place(self):
        purse = Purse(SMALL, "sb", 0)
        self.check_same([purse.lots("b"), purse.usable("b"), purse.payable(), purse.ready_chips], [[], 0, 0, 0])
        self.check_same([len(purse), purse.past, purse.last_reading, purse.remembered()], [0, 0, None, {}])
        self.check_same(purse.standing(), (None, ()))
        self.check_same(purse.table(), {"r next": "1", "r past": "0"})
        self.assertTrue(purse)
        self.assertIs(bool(purse), True)

    def test_arguments_by_name(self):
        self.check_same(facts(Purse(error=2, server="sa", tree=SMALL)), facts(Purse(SMALL, "sa", 2)))

    def test_errors_of_the_clock(self):
        for error in (0, 1, 100):
            self.check_same(Purse(SMALL, "sa", error).error, error)
        for error in NOT_NUMBERS + [-1, 101]:
            self.check_error(InvalidNumber, [error], Purse, SMALL, "sa", error)

    def test_unknown_servers(self):
        for server in NOT_NUMBERS + [5, "a", "sc", "sd"]:
            self.check_error(UnknownName, [server], Purse, SMALL, server, 0)
            self.check_error(UnknownName, [server], Purse, SMALL, server, None)

    def test_properties(self):
        for word in ("ready_chips", "past", "last_reading"):
            self.assertIsInstance(inspect.getattr_static(Purse, word), property)

    def test_unknown_places_and_lots(self):
        purse = Purse(SMALL, "sa", 0)
        for place in NO_PLACES:
            for call in (purse.lots, purse.usable):
                self.refused(purse, UnknownName, [place], call, place)
            self.refused(purse, UnknownName, [place], purse.lot, place, 0)
            self.refused(purse, UnknownName, [place], purse.lot, place, None)
        for number in NOT_NUMBERS + [1, -1]:
            self.refused(purse, UnknownLot, ["a", number], purse.lot, "a", number)
        self.check_same(purse.lot(place="a", number=0), purse.lots(place="a")[0])
        self.check_same(purse.usable(place="a"), 3)

    def test_a_truth_is_no_lot(self):
        purse = Purse(SMALL, "sa", 0)
        number, _ = purse.lend(0, "a", "m", 1)
        self.check_same(number, 1)
        self.refused(purse, UnknownLot, ["m", True], purse.lot, "m", True)
        self.refused(purse, UnknownLot, ["a", False], purse.lot, "a", False)


class Readings(PurseCase):
    def test_past_never_falls(self):
        purse = Purse(SMALL, "sa", 3)
        for reading, past in ((-3, 0), (0, 0), (3, 0), (4, 1), (10, 7), (5, 7), (4, 7), (10, 7), (11, 8), (9, 8)):
            purse.settle(reading)
            self.check_same([purse.past, purse.last_reading], [past, reading])

    def test_high_at_past_and_below(self):
        purse = Purse(SMALL, "sa", 3)
        purse.settle(20)
        self.refused(purse, BadReading, ["sa", 13], purse.settle, 13)
        purse.settle(14)
        self.check_same([purse.past, purse.last_reading], [17, 14])

    def test_below_the_first_reading(self):
        purse = Purse(SMALL, "sa", 3)
        self.refused(purse, BadReading, ["sa", -4], purse.settle, -4)
        purse.settle(-3)
        self.check_same([purse.past, purse.last_reading], [0, -3])

    def test_readings_that_are_no_numbers(self):
        purse = Purse(SMALL, "sa", 3)
        for reading in NOT_NUMBERS:
            self.refused(purse, BadReading, ["sa", reading], purse.settle, reading)

    def test_bad_reading_comes_first(self):
        purse = middle((1, 5, 50))
        purse.settle(20)
        for call, args in (
            (purse.use, ["zz", 0]), (purse.pay, [[], 0]), (purse.lend, ["zz", None, 0]), (purse.prolong, [None, None]),
            (purse.give_back, ["zz", None, None]), (purse.recall, ["zz", None]), (purse.receive, [None]),
        ):
            self.refused(purse, BadReading, ["sb", 15], call, 15, *args)

    def test_a_low_is_kept_by_every_operation(self):
        calls = [
            lambda purse: purse.settle(9), lambda purse: purse.use(9, "b", 1), lambda purse: purse.pay(9, [], 1),
            lambda purse: purse.lend(9, "b", "c", 1), lambda purse: purse.recall(9, "c", 1),
            lambda purse: purse.give_back(9, "c", 1, [(0, 1)]), lambda purse: purse.prolong(9, 2, 40),
            lambda purse: purse.receive(9, ("lend", "r", "b", 1, 5, 50)),
        ]
        for call in calls:
            purse = middle((1, 8, 50))
            purse.lend(0, "b", "c", 4)
            purse.lend(0, "c", "x", 2, until=30)
            call(purse)
            self.check_same([purse.past, purse.last_reading], [7, 9])

    def test_chips_are_never_ready_again_too_early_for_a_clock_to_and_fro(self):
        purse = Purse(Tree(Rule("r", 1, Window(10)), Place("a", "sa")), "sa", 3)
        purse.use(5, "a", 1)
        self.check_same(purse.lots("a"), [(0, None, None, 0, ((18, 1),), (), 0)])
        purse.settle(4)
        self.check_same(purse.lots("a"), [(0, None, None, 0, ((17, 1),), (), 0)])
        purse.settle(9)
        self.check_same(purse.lots("a"), [(0, None, None, 0, ((17, 1),), (), 0)])


class Settling(PurseCase):
    def test_an_until_at_high(self):
        for reading, home in ((10, False), (11, True), (12, True)):
            purse = Purse(SMALL, "sa", 2)
            purse.lend(0, "a", "m", 2, until=13)
            purse.settle(reading)
            self.check_same(len(purse.lots("m")) == 0, home)
            self.check_same(purse.usable("a"), 3 if home else 1)
            self.check_same(purse.lot("a", 0)[5], () if home else ((1, "m", 2, None, 13, ()),))

    def test_what_falls_home_comes_as_it_is(self):
        purse = middle((1, 9, 90))
        purse.lend(0, "b", "c", 7, until=20)
        purse.lend(0, "c", "m", 2, until=60)
        purse.lend(0, "c", "x", 3, until=40)
        purse.use(1, "c", 1)
        purse.use(2, "m", 1)
        self.check_same(purse.lots("b"), [(1, 90, None, 2, (), ((1, "c", 7, None, 20, ()),), 0)])
        purse.settle(3)
        self.check_same(purse.lots("c"), [
            (1, 90, 20, 1, ((13, 1),), ((2, "m", 2, None, 60, ()), (3, "x", 3, 40, None, ())), 0)])
        self.check_same(purse.lots("m"), [(2, 90, 60, 1, ((14, 1),), (), 0)])
        purse.settle(17)
        self.check_same([len(purse.lots("c")), len(purse.lots("m"))], [1, 1])
        purse = middle((1, 9, 90), error=10)
        purse.lend(0, "b", "c", 7, until=20)
        purse.lend(0, "c", "m", 2, until=60)
        purse.lend(0, "c", "x", 3, until=40)
        purse.use(1, "c", 1)
        purse.use(2, "m", 1)
        purse.settle(10)
        self.check_same(purse.lots("b"), [(1, 90, None, 4, ((21, 1), (22, 1)), ((3, "x", 3, 40, None, ()),), 0)])
        self.check_same([purse.lots("c"), purse.lots("m"), len(purse)], [[], [], 9])

    def test_a_lot_falls_home_that_lies_beneath_another_one(self):
        for first, second in ((20, 30), (30, 20), (20, 20)):
            purse = middle((1, 9, 90))
            purse.lend(0, "b", "c", 7, until=first)
            purse.lend(0, "c", "m", 2, until=second)
            purse.settle(18)
            self.check_same([purse.usable("m"), purse.usable("c")], [0 if second == 20 or first == 20 else 2,
                                                                     0 if first == 20 else 7])
            purse.settle(28)
            self.check_same([purse.usable("b"), purse.usable("c"), purse.usable("m")], [9, 0, 0])

    def test_an_end_at_low(self):
        for reading, stays in ((31, True), (32, False), (33, False)):
            purse = middle((1, 5, 30), (2, 4, 31 + 20))
            purse.lend(0, "b", "c", 2, lot=1)
            purse.lend(0, "c", "m", 1)
            purse.lend(0, "b", "c", 2, lot=2)
            purse.settle(reading)
            self.check_same([lot[0] for lot in purse.lots("b")], [1, 2] if stays else [2])
            self.check_same([lot[0] for lot in purse.lots("c")], [1, 3] if stays else [3])
            self.check_same([lot[0] for lot in purse.lots("m")], [2] if stays else [])
            self.check_same(len(purse), 9 if stays else 4)

    def test_an_ended_lot_takes_its_far_loans_along(self):
        purse = middle((1, 5, 30))
        purse.lend(0, "b", "c", 5)
        purse.lend(0, "c", "x", 5, until=30)
        purse.settle(31)
        self.check_same(len(purse), 5)
        purse.settle(32)
        self.check_same([len(purse), purse.lots("b"), purse.lots("c")], [0, [], []])
        self.check_same(purse.receive(32, ("back", "r", "x", 2, 1, ((0, 1),))), False)

    def test_resting_until_low(self):
        for reading, ready in ((12, 2), (13, 3), (14, 3)):
            purse = Purse(SMALL, "sa", 1)
            purse.use(1, "a", 1)
            self.check_same(purse.lot("a", 0)[4], ((12, 1),))
            purse.settle(reading)
            self.check_same(purse.ready_chips, ready)
            self.check_same(purse.lot("a", 0)[4], () if ready == 3 else ((12, 1),))

    def test_nothing_rests_longer_than_what_is_used_now(self):
        purse = Purse(SMALL, "sa", 5)
        purse.use(20, "a", 1)
        purse.use(19, "a", 1)
        self.check_same(purse.lot("a", 0)[4], ((34, 2),))
        purse.settle(12)
        self.check_same(purse.lot("a", 0)[4], ((27, 2),))
        purse.settle(30)
        self.check_same(purse.lot("a", 0)[4], ((27, 2),))

    def test_what_is_lent_to_another_server_comes_when_it_has_rested(self):
        for reading, ready in ((29, 1), (30, 3), (31, 3)):
            purse = Purse(SMALL, "sa", 1)
            purse.lend(0, "a", "b", 2, until=20)
            purse.settle(reading)
            self.check_same([purse.ready_chips, len(purse)], [ready, 3])
            self.check_same(purse.lot("a", 0)[5], () if ready == 3 else ((1, "b", 2, 20, None, ()),))

    def test_what_comes_from_another_server_comes_into_the_lot_of_the_loan(self):
        purse = middle((1, 5, 90), (2, 5, 80))
        purse.lend(0, "b", "c", 3, lot=2, until=70)
        purse.lend(0, "c", "x", 2, until=20)
        purse.settle(31)
        self.check_same(purse.lots("c"), [(1, 80, 70, 3, (), (), 0)])

    def test_remembered_numbers_go(self):
        purse = middle((1, 5, 30), (7, 1, 31), (3, 2, 90))
        self.check_same(purse.remembered(), {1: 30, 3: 90, 7: 31})
        purse.settle(31)
        self.check_same(purse.remembered(), {1: 30, 3: 90, 7: 31})
        purse.settle(32)
        self.check_same(purse.remembered(), {3: 90, 7: 31})
        purse.settle(33)
        self.check_same(purse.remembered(), {3: 90})

    def test_the_steps_come_in_their_order(self):
        # The far loan gets ready where it came to when its lot fell home.
        purse = middle((1, 5, 40))
        purse.lend(0, "b", "c", 5, until=30)
        purse.lend(0, "c", "x", 2, until=29)
        purse.settle(41)
        self.check_same(purse.lots("b"), [(1, 40, None, 5, (), (), 0)])
        purse.settle(42)
        self.check_same([purse.lots("b"), len(purse)], [[], 0])

    def test_settled_twice(self):
        purse = middle((1, 9, 90), (2, 3, 25), error=4)
        purse.lend(0, "b", "c", 7, until=20)
        purse.lend(0, "c", "x", 3, until=15)
        purse.use(3, "c", 2)
        for reading in (5, 16, 21, 29, 22, 30, 94):
            purse.settle(reading)
            ahead = facts(purse)
            purse.settle(reading)
            self.check_same(facts(purse), ahead)

    def test_several_rising_readings_against_the_last_one(self):
        def made():
            purse = middle((1, 9, 90), (2, 3, 25), error=4)
            purse.lend(0, "b", "c", 7, until=20)
            purse.lend(0, "c", "x", 3, until=15)
            purse.lend(0, "c", "m", 2)
            purse.use(3, "c", 1)
            purse.use(3, "m", 1)
            return purse
        for last in range(0, 100, 3):
            often, once = made(), made()
            for reading in range(4, last + 4):
                often.settle(reading)
            often.settle(last + 4)
            once.settle(last + 4)
            self.check_same(facts(often), facts(once))

    def test_settling_tells_nothing(self):
        self.assertIsNone(Purse(SMALL, "sa", 0).settle(reading=3))


class Using(PurseCase):
    def test_the_least_end_then_the_least_number(self):
        purse = middle((5, 2, 40), (9, 1, 30), (2, 2, 40), (4, 3, 30))
        self.check_same(purse.use(0, "b", 7), [("b", 4, 3), ("b", 9, 1), ("b", 2, 2), ("b", 5, 1)])
        self.check_same(purse.lots("b"), [
            (2, 40, None, 0, ((12, 2),), (), 0), (4, 30, None, 0, ((12, 3),), (), 0),
            (5, 40, None, 1, ((12, 1),), (), 0), (9, 30, None, 0, ((12, 1),), (), 0)])
        self.refused(purse, NotHeld, ["b", 2], purse.use, 0, "b", 2)
        self.check_same(purse.use(reading=0, place="b", n=1), [("b", 5, 1)])

    def test_a_lot_with_an_end_at_high(self):
        purse = middle((1, 2, 30), (2, 2, 31))
        self.check_same(purse.copy().use(27, "b", 3), [("b", 1, 2), ("b", 2, 1)])
        self.refused(purse, NotHeld, ["b", 3], purse.use, 28, "b", 3)
        for reading, usable in ((27, 4), (28, 2), (29, 0)):
            other = purse.copy()
            other.settle(reading)
            self.check_same([other.usable("b"), other.payable(), other.ready_chips], [usable, usable, 4])
        self.refused(purse, NotHeld, ["b", 1], purse.use, 28, "b", 1, lot=1)
        self.check_same(purse.copy().use(28, "b", 2), [("b", 2, 2)])
        self.refused(purse, NotHeld, ["b", 1], purse.use, 29, "b", 1)

    def test_a_lot_without_an_end_comes_last(self):
        tree = Tree(Rule("r", 4, Window(10)), Place("a", "sa"), Place("c", "sa", "a"))
        purse = Purse(tree, "sa", 0)
        purse.lend(0, "a", "c", 1)
        purse.lend(0, "a", "c", 2)
        self.check_same(purse.use(0, "c", 2), [("c", 1, 1), ("c", 2, 1)])
        self.check_same(purse.use(0, "a", 1), [("a", 0, 1)])
        self.check_same(purse.lot("a", 0)[3:5], (0, ((10, 1),)))

    def test_a_named_lot(self):
        purse = middle((1, 2, 30), (2, 3, 40))
        self.check_same(purse.use(1, "b", 3, lot=2), [("b", 2, 3)])
        self.refused(purse, NotHeld, ["b", 1], purse.use, 1, "b", 1, lot=2)
        self.refused(purse, NotHeld, ["b", 3], purse.use, 1, "b", 3, lot=1)
        self.check_same(purse.use(1, "b", 2, lot=1), [("b", 1, 2)])

    def test_rests_of_several_forms(self):
        for rest in (Days([3, 7], 5), Next(Window(3), Days([], 4))):
            for reading in (0, 2, 5, 30):
                purse = Purse(Tree(Rule("r", 2, rest), Place("a", "sa")), "sa", 1)
                purse.use(reading, "a", 1)
                self.check_same(purse.lots("a"), [(0, None, None, 1, ((rest(reading + 1), 1),), (), 0)])

    def test_a_rest_until_the_moment_one(self):
        purse = Purse(Tree(Rule("r", 2, Window(1)), Place("a", "sa")), "sa", 0)
        purse.use(0, "a", 1)
        self.check_same(purse.lots("a"), [(0, None, None, 1, ((1, 1),), (), 0)])
        purse.settle(1)
        self.check_same(purse.lots("a"), [(0, None, None, 2, (), (), 0)])

    def test_errors_of_use(self):
        purse = middle((1, 2, 30))
        for place in NOT_NUMBERS + [1, "a", "x", "sb"]:
            self.refused(purse, UnknownName, [place], purse.use, 3, place, None, lot="z")
        for lot in [value for value in NOT_NUMBERS if value is not None] + [0, 2, -1]:
            self.refused(purse, UnknownLot, ["b", lot], purse.use, 3, "b", None, lot=lot)
        self.refused(purse, UnknownLot, ["c", 1], purse.use, 3, "c", None, lot=1)
        for n in NOT_NUMBERS + [0, -1, 3]:
            self.refused(purse, NotHeld, ["b", n], purse.use, 3, "b", n)
            self.refused(purse, NotHeld, ["b", n], purse.use, 3, "b", n, lot=1)
        with self.assertRaises(TypeError):
            purse.use(3, "b", 1, 1)

    def test_an_error_settles_nothing(self):
        purse = middle((1, 2, 30))
        purse.lend(0, "b", "c", 1, until=20)
        ahead = facts(purse)
        self.check_error(NotHeld, ["c", 1], purse.use, 25, "c", 1)
        self.check_same(facts(purse), ahead)
        self.check_same(len(purse.lots("c")), 1)

    def test_a_lot_that_settling_takes_is_unknown(self):
        purse = middle((1, 2, 30))
        purse.lend(0, "b", "c", 1, until=20)
        self.refused(purse, UnknownLot, ["c", 1], purse.use, 18, "c", 1, lot=1)
        self.check_same(purse.use(17, "c", 1, lot=1), [("c", 1, 1)])


class Paying(PurseCase):
    TREE = Tree(
        Rule("r", 50, Window(10)), Place("a", "sa"), Place("t", "sb", "a"), Place("e", "sb", "t", customer="firm"),
        Place("d", "sb", "t", customer="ann"), Place("n", "sb", "d", memory=True, customer="ann"),
        Place("m", "sb", "t", memory=True), Place("o", "sb", "e", memory=True, customer="bob"), Place("f", "sb", "t"),
    )

    def purse(self):
        """Two lots at t; some chips of both, or of one, at all other places."""
        purse = Purse(self.TREE, "sb", 1)
        purse.receive(0, ("lend", "r", "t", 7, 20, 60))
        purse.receive(0, ("lend", "r", "t", 3, 20, 50))
        for place, n, lot in (("e", 5, 3), ("d", 4, 7), ("m", 2, 7), ("f", 3, 3), ("d", 2, 3), ("m", 1, 3)):
            purse.lend(0, "t", place, n, lot=lot)
        purse.lend(0, "d", "n", 1, lot=2)
        purse.lend(0, "e", "o", 2)
        return purse

    # What each place has ready, lot by lot in the order of paying: t 14 of 7 and 9 of 3.
    COMMON = [("m", 6, 1), ("m", 3, 2), ("t", 3, 9), ("f", 4, 3), ("t", 7, 14)]
    ANN = [("n", 7, 1), ("d", 5, 2), ("d", 2, 3)]
    FIRM = [("e", 1, 3)]

    def test_the_order(self):
        for path, rows in (
            ([], self.COMMON), (["zoe"], self.COMMON), (["ann"], self.ANN + self.COMMON),
            (["ann", "firm"], self.ANN + self.FIRM + self.COMMON), (["firm", "ann"], self.FIRM + self.ANN + self.COMMON),
            (["bob", "firm"], [("o", 8, 2)] + self.FIRM + self.COMMON), (("firm",), self.FIRM + self.COMMON),
        ):
            purse = self.purse()
            count = sum([n for _, _, n in rows])
            self.check_same(purse.payable(path), count)
            self.refused(purse, NotHeld, ["r", count + 1], purse.pay, 0, path, count + 1)
            for n in range(1, count + 1):
                self.check_same(purse.copy().pay(0, path, n), first_chips(rows, n))
            self.check_same(purse.pay(reading=0, path=path, n=count), rows)
            self.check_same(purse.payable(path), 0)

    def test_equal_ends_go_by_place_and_number(self):
        purse = Purse(self.TREE, "sb", 1)
        for number in (9, 4):
            purse.receive(0, ("lend", "r", "t", number, 5, 50))
        purse.lend(0, "t", "f", 1, lot=9)
        purse.lend(0, "t", "f", 2, lot=9)
        self.check_same(purse.pay(0, [], 10), [("t", 4, 5), ("t", 9, 2), ("f", 1, 1), ("f", 2, 2)])

    def test_ends_at_high_do_not_pay(self):
        purse = self.purse()
        purse.settle(49)
        self.check_same([purse.payable(), purse.payable(["ann"]), purse.payable(["firm"])], [16, 20, 16])
        self.check_same(purse.pay(49, ["ann", "firm"], 20), [("n", 7, 1), ("d", 2, 3), ("m", 3, 2), ("t", 7, 14)])

    def test_what_was_paid_rests_in_its_lot(self):
        purse = self.purse()
        purse.pay(2, ["ann"], 4)
        self.check_same(purse.lots("n"), [(7, 60, None, 0, ((13, 1),), (), 0)])
        self.check_same([lot[3:5] for lot in purse.lots("d")], [(2, ((13, 1),)), (0, ((13, 2),))])
        self.check_same(len(purse), 40)

    def test_errors_of_pay(self):
        purse = self.purse()
        for n in NOT_NUMBERS + [0, -1, 100]:
            self.refused(purse, NotHeld, ["r", n], purse.pay, 1, [], n)


def first_chips(rows, n):
    """The first n chips of rows (place, number, count)."""
    found = []
    for place, number, count in rows:
        if n > 0:
            found.append((place, number, min(n, count)))
        n -= count
    return found


class Examples(PurseCase):
    def test_a_loan_that_is_never_heard_of_again(self):
        tree = Tree(Rule("r", 2, Window(10)), Place("a", "sa"), Place("b", "sb", "a"))
        lender, taker = Purse(tree, "sa", 1), Purse(tree, "sb", 2)
        number, letter = lender.lend(0, "a", "b", 1, until=20)
        self.check_same((number, letter), (1, ("lend", "r", "b", 1, 1, 20)))
        self.check_same(lender.table(), {"r lot a 0": "- - 1 0 loan 1 b 1 20 - -", "r next": "2", "r past": "0"})
        self.check_same(taker.receive(0, letter), True)
        self.check_same(taker.copy().use(17, "b", 1), [("b", 1, 1)])
        self.refused(taker, NotHeld, ["b", 1], taker.use, 18, "b", 1)
        taker.settle(21)
        self.check_same(len(taker.lots("b")), 1)
        taker.settle(22)
        self.check_same(taker.lots("b"), [])
        lender.settle(29)
        self.check_same([lender.usable("a"), lender.past], [1, 28])
        lender.settle(30)
        self.check_same([lender.usable("a"), lender.past], [2, 29])

    def test_chips_that_come_back(self):
        tree = Tree(Rule("r", 2, Window(10)), Place("a", "sa"), Place("b", "sb", "a"))
        lender, taker = Purse(tree, "sa", 1), Purse(tree, "sb", 2)
        _, letter = lender.lend(0, "a", "b", 2, until=50)
        taker.receive(0, letter)
        taker.use(4, "b", 1)
        self.check_same(taker.lots("b"), [(1, 50, None, 1, ((16, 1),), (), 0)])
        back = taker.give_back(5, "b", 1, ((0, 1), (16, 1)))
        self.check_same(back, ("back", "r", "b", 1, 1, ((0, 1), (16, 1))))
        self.check_same([taker.lots("b"), taker.remembered()], [[], {1: 50}])
        self.check_same(lender.receive(7, back), True)
        self.check_same(lender.lots("a"), [(0, None, None, 1, ((16, 1),), (), 0)])
        lender.settle(16)
        self.check_same(lender.usable("a"), 1)
        lender.settle(17)
        self.check_same(lender.usable("a"), 2)

    def test_chips_in_memory_that_was_lost(self):
        purse = Purse(SMALL, "sa", 1)
        purse.lend(2, "a", "m", 2, until=30)
        self.check_same(purse.pay(4, [], 1), [("m", 1, 1)])
        purse = Purse.restored(SMALL, "sa", 1, purse.table(), 6)
        self.check_same(purse.lots("a"), [(0, None, None, 1, ((17, 2),), (), 0)])
        for reading, ready in ((16, 1), (17, 1), (18, 3)):
            purse.settle(reading)
            self.check_same(purse.usable("a"), ready)

    def test_a_clock_with_a_great_error(self):
        purse = Purse(Tree(Rule("r", 1, Window(10)), Place("a", "sa")), "sa", 3)
        purse.use(5, "a", 1)
        self.check_same(purse.lots("a"), [(0, None, None, 0, ((18, 1),), (), 0)])
        for reading, ready in ((20, 0), (21, 1)):
            purse.settle(reading)
            self.check_same(purse.usable("a"), ready)

    def test_a_letter_that_comes_once_more(self):
        tree = Tree(Rule("r", 1, Window(3)), Place("a", "sa"), Place("b", "sb", "a"))
        lender, taker = Purse(tree, "sa", 0), Purse(tree, "sb", 2)
        _, letter = lender.lend(0, "a", "b", 1, until=5)
        self.check_same(taker.receive(0, letter), True)
        taker.use(2, "b", 1)
        self.check_same(taker.lots("b"), [(1, 5, None, 0, ((7, 1),), (), 0)])
        taker.settle(7)
        self.check_same([taker.lots("b"), taker.remembered(), taker.past], [[], {}, 5])
        for again in (taker, taker.copy(), Purse.restored(tree, "sb", 2, taker.table(), 4)):
            self.check_same(again.receive(4, letter), False)
            self.check_same([again.lots("b"), again.past, again.remembered()], [[], 5, {}])


class Copies(PurseCase):
    def test_a_copy_shares_nothing(self):
        purse = middle((1, 9, 90), (2, 3, 25), error=4)
        purse.lend(0, "b", "c", 7, until=20)
        purse.lend(0, "c", "x", 3, until=15)
        ahead = facts(purse)
        other = purse.copy()
        self.check_same(facts(other), ahead)
        other.use(1, "b", 2)
        other.lend(1, "c", "m", 1)
        other.receive(2, ("lend", "r", "b", 5, 2, 70))
        other.receive(2, ("back", "r", "x", 2, 1, ((0, 2),)))
        other.recall(3, "c", 1)
        self.check_same(facts(purse), ahead)
        behind = facts(other)
        purse.settle(95)
        self.check_same(facts(other), behind)

    def test_told_lists_and_dicts_may_be_changed(self):
        purse = middle((1, 9, 90))
        purse.lend(0, "b", "c", 2)
        ahead = copy.deepcopy(facts(purse))
        purse.lots("b").clear()
        purse.remembered().clear()
        purse.table().clear()
        self.check_same(facts(purse), ahead)

    def test_passed_lists_are_copied(self):
        purse = middle((1, 9, 90))
        parts = [(0, 2)]
        letter = purse.give_back(0, "b", 1, parts)
        parts.append((5, 5))
        path = ["ann"]
        purse.pay(0, path, 1)
        self.check_same([letter, path], [("back", "r", "b", 1, 1, ((0, 2),)), ["ann"]])


if __name__ == "__main__":
    unittest.main()
