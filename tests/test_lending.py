"""Purses: lending, prolonging, giving back and recalling."""

import unittest

from support import NOT_NUMBERS, PurseCase, facts

from surelet.errors import BadReading, InvalidParts, NoElder, NotHeld, Over, UnknownLoan, UnknownLot, UnknownName
from surelet.purses import Purse
from surelet.rests import Window
from surelet.rules import Rule
from surelet.trees import Place, Tree

# a on sa; b, c, d and the place in memory m hang together on sb; x beneath b and y beneath d on sc.
TREE = Tree(
    Rule("r", 30, Window(10)), Place("a", "sa"), Place("b", "sb", "a"), Place("c", "sb", "b"), Place("d", "sb", "c"),
    Place("m", "sb", "d", memory=True), Place("x", "sc", "b"), Place("y", "sd", "d"),
)
NOT_PLACES = NOT_NUMBERS + [1, "a", "x", "sb", "zz"]
NAMED = [value for value in NOT_NUMBERS if value is not None]
NOT_PARTS = [value for value in NOT_NUMBERS] + [
    5, [[0, 1]], ((0, 1), [5, 1]), [(0, 0)], [(0, -1)], [(-1, 1)], [(0, True)], [(False, 1)], [(0, 1), (0, 1)],
    [(5, 1), (4, 1)], [(5, 1), (5, 1)], [(0,)], [(0, 1, 1)], [(0, None)], [(None, 1)], ["01"], {(0, 1): 1},
]


def middle(*lends, error=2):
    """The purse of sb, behind letters lend (number, n, end), received at 0."""
    purse = Purse(TREE, "sb", error)
    for number, n, end in lends:
        purse.receive(0, ("lend", "r", "b", number, n, end))
    return purse


class Lending(PurseCase):
    def test_on_the_same_server_without_an_until(self):
        purse = middle((4, 9, 60))
        self.check_same(purse.lend(1, "b", "c", 5), (1, None))
        self.check_same(purse.lots("b"), [(4, 60, None, 4, (), ((1, "c", 5, None, None, ()),), 0)])
        self.check_same(purse.lots("c"), [(1, 60, None, 5, (), (), 0)])
        self.check_same([len(purse), purse.ready_chips, purse.remembered()], [9, 9, {4: 60}])

    def test_on_the_same_server_with_an_until(self):
        purse = middle((4, 9, 60))
        self.check_same(purse.lend(1, "b", "c", 5, until=40), (1, None))
        self.check_same(purse.lots("b"), [(4, 60, None, 4, (), ((1, "c", 5, None, 40, ()),), 0)])
        self.check_same(purse.lots("c"), [(1, 60, 40, 5, (), (), 0)])

    def test_down_a_chain_of_places(self):
        purse = middle((4, 9, 60))
        purse.lend(1, "b", "c", 7, until=40)
        purse.lend(1, "c", "d", 5)
        purse.lend(1, "d", "m", 3, until=50)
        purse.lend(1, "d", "y", 1, until=30)
        self.check_same(purse.lots("b"), [(4, 60, None, 2, (), ((1, "c", 7, None, 40, ()),), 0)])
        self.check_same(purse.lots("c"), [(1, 60, 40, 2, (), ((2, "d", 5, None, 40, ()),), 0)])
        self.check_same(purse.lots("d"), [
            (2, 60, 40, 1, (), ((3, "m", 3, None, 50, ()), (4, "y", 1, 30, None, ())), 0)])
        self.check_same(purse.lots("m"), [(3, 60, 50, 3, (), (), 0)])
        purse.use(2, "m", 2)
        self.check_same(purse.lot("d", 2)[5][0], (3, "m", 3, None, 50, ()))
        self.check_same([len(purse), purse.ready_chips], [9, 6])

    def test_to_another_server(self):
        purse = middle((4, 9, 60))
        self.check_same(purse.lend(1, "b", "x", 5, until=40), (1, ("lend", "r", "x", 1, 5, 40)))
        self.check_same(purse.lots("b"), [(4, 60, None, 4, (), ((1, "x", 5, 40, None, ()),), 0)])
        self.check_same(purse.lend(until=41, n=1, child="x", place="b", reading=1)[1], ("lend", "r", "x", 2, 1, 41))
        self.check_same([len(purse), purse.ready_chips, purse.usable("b")], [9, 3, 3])
        self.check_same(purse.table()["r next"], "3")

    def test_a_lot_that_lends_all_it_has(self):
        purse = middle((4, 9, 60))
        purse.lend(1, "b", "x", 9, until=40)
        self.check_same(purse.lots("b"), [(4, 60, None, 0, (), ((1, "x", 9, 40, None, ()),), 0)])

    def test_the_first_place_lends_for_ever(self):
        purse = Purse(TREE, "sa", 1)
        for number, until in ((1, 1), (2, 100000)):
            self.check_same(purse.lend(1, "a", "b", 2, until=until)[1], ("lend", "r", "b", number, 2, until))

    def test_numbers_go_on_at_all_places_together(self):
        purse = middle((1, 9, 60), (7, 3, 50))
        numbers = [purse.lend(0, "b", "c", 2)[0], purse.lend(0, "b", "x", 2, until=20)[0],
                   purse.lend(0, "c", "d", 1)[0]]
        purse.recall(0, "d", 3)
        numbers.append(purse.lend(0, "c", "d", 1)[0])
        self.check_error(NotHeld, ["c", 100], purse.lend, 0, "c", "d", 100)
        numbers.append(purse.lend(0, "d", "m", 1)[0])
        self.check_same(numbers, [1, 2, 3, 4, 5])

    def test_an_until_at_and_behind_high(self):
        for until, fine in ((5, False), (6, False), (7, True), (0, False), (-3, False)):
            purse = middle((4, 9, 60))
            if fine:
                self.check_same(purse.lend(4, "b", "c", 1, until=until), (1, None))
            else:
                self.refused(purse, Over, [until], purse.lend, 4, "b", "c", 1, until=until)

    def test_an_end_at_and_behind_low(self):
        for until, fine in ((1, False), (2, False), (3, True), (59, True), (60, True), (61, False)):
            purse = middle((4, 9, 60))
            if fine:
                self.check_same(purse.lend(4, "b", "x", 1, until=until)[1], ("lend", "r", "x", 1, 1, until))
            else:
                self.refused(purse, Over, [until], purse.lend, 4, "b", "x", 1, until=until)
        purse = middle((4, 9, 60))
        purse.settle(20)
        self.refused(purse, Over, [18], purse.lend, 17, "b", "x", 1, until=18)
        self.check_same(purse.lend(17, "b", "x", 1, until=19)[0], 1)

    def test_the_lot_that_lends(self):
        lends = ((1, 2, 50), (2, 5, 40), (3, 9, 70), (4, 5, 40), (5, 5, 50))
        for n, until, number in (
            (1, None, 2), (2, None, 2), (5, None, 2), (6, None, 3), (1, 30, 2), (1, 40, 2), (1, 41, 1), (2, 50, 1),
            (3, 41, 5), (3, 50, 5), (3, 51, 3), (6, 10, 3), (1, 70, 3),
        ):
            purse = middle(*lends)
            purse.lend(0, "b", "c" if until is None else "x", n, until=until)
            self.check_same([lot[0] for lot in purse.lots("b") if lot[5]], [number])
        purse = middle(*lends)
        self.refused(purse, NotHeld, ["b", 10], purse.lend, 0, "b", "c", 10)
        self.refused(purse, Over, [71], purse.lend, 0, "b", "x", 1, until=71)
        purse.use(0, "b", 9, lot=3)
        self.refused(purse, Over, [51], purse.lend, 0, "b", "x", 5, until=51)

    def test_a_named_lot(self):
        purse = middle((1, 2, 50), (2, 5, 40))
        purse.lend(0, "b", "c", 2, lot=1)
        purse.lend(0, "b", "x", 1, lot=2, until=40)
        self.check_same([[loan[0] for loan in lot[5]] for lot in purse.lots("b")], [[1], [2]])
        self.refused(purse, NotHeld, ["b", 1], purse.lend, 0, "b", "c", 1, lot=1)
        self.refused(purse, Over, [41], purse.lend, 0, "b", "x", 1, lot=2, until=41)
        self.refused(purse, NotHeld, ["b", 5], purse.lend, 0, "b", "x", 5, lot=2, until=41)

    def test_a_lot_with_an_end_at_high_lends(self):
        purse = middle((1, 5, 30))
        self.check_same(purse.lend(30, "b", "c", 1), (1, None))
        self.check_same(purse.lend(31, "b", "x", 1, until=30)[1], ("lend", "r", "x", 2, 1, 30))
        self.check_same(purse.lots("c"), [(1, 30, None, 1, (), (), 0)])

    def test_unknown_names(self):
        purse = middle((1, 5, 30))
        for place in NOT_PLACES:
            self.refused(purse, UnknownName, [place], purse.lend, 3, place, None, None, until=0, lot="z")
        for child in NOT_NUMBERS + [1, "a", "b", "d", "m", "y", "zz"]:
            self.refused(purse, UnknownName, [child], purse.lend, 3, "b", child, None, until=0, lot="z")

    def test_wrong_untils(self):
        purse = middle((1, 5, 30))
        for until in NOT_NUMBERS:
            self.refused(purse, Over, [until], purse.lend, 3, "b", "x", None, until=until, lot="z")
            if until is not None:
                self.refused(purse, Over, [until], purse.lend, 3, "b", "c", None, until=until, lot="z")
        self.refused(purse, Over, [None], purse.lend, 3, "b", "x", 1)

    def test_wrong_lots_and_counts(self):
        purse = middle((1, 5, 30))
        for lot in NAMED + [0, 2, -1]:
            self.refused(purse, UnknownLot, ["b", lot], purse.lend, 3, "b", "c", None, lot=lot)
            self.refused(purse, UnknownLot, ["b", lot], purse.lend, 3, "b", "x", 99, lot=lot, until=99)
        for n in NOT_NUMBERS + [0, -1, 6]:
            self.refused(purse, NotHeld, ["b", n], purse.lend, 3, "b", "c", n)
            self.refused(purse, NotHeld, ["b", n], purse.lend, 3, "b", "c", n, lot=1)
            self.refused(purse, NotHeld, ["b", n], purse.lend, 3, "b", "x", n, until=99)
        with self.assertRaises(TypeError):
            purse.lend(3, "b", "c", 1, 20)

    def test_two_lots_do_not_lend_together(self):
        purse = middle((1, 5, 30), (2, 5, 30))
        self.refused(purse, NotHeld, ["b", 6], purse.lend, 3, "b", "c", 6)

    def test_resting_chips_are_not_lent(self):
        purse = middle((1, 5, 30))
        purse.use(0, "b", 4)
        self.refused(purse, NotHeld, ["b", 2], purse.lend, 3, "b", "c", 2)
        self.check_same(purse.lend(3, "b", "c", 1), (1, None))
        self.check_same(purse.lot("b", 1)[3:5], (0, ((12, 4),)))

    def test_settling_comes_first(self):
        purse = middle((1, 5, 30))
        purse.lend(0, "b", "c", 5, until=20)
        self.check_same(purse.lend(18, "b", "x", 5, until=25)[0], 2)
        self.check_same(purse.lots("c"), [])


class Prolonging(PurseCase):
    def lent(self):
        """A lot that ends at 60, and a loan of it to x until 20, in a lot that ends at 60."""
        purse = middle((4, 9, 60))
        purse.lend(0, "b", "c", 2)
        purse.lend(0, "b", "x", 5, until=20)
        return purse

    def test_a_later_end(self):
        purse = self.lent()
        self.check_same(purse.prolong(3, 2, 35), ("extend", "r", "x", 2, 35))
        self.check_same(purse.lot("b", 4)[5][1], (2, "x", 5, 35, None, ()))
        self.check_same(purse.prolong(reading=3, number=2, until=60), ("extend", "r", "x", 2, 60))
        self.check_same([len(purse), purse.ready_chips], [9, 4])

    def test_the_bounds(self):
        for until, fine in ((19, False), (20, False), (21, True), (60, True), (61, False)):
            purse = self.lent()
            if fine:
                self.check_same(purse.prolong(3, 2, until), ("extend", "r", "x", 2, until))
            else:
                self.refused(purse, Over, [until], purse.prolong, 3, 2, until)

    def test_above_low(self):
        # At 27 low is 25: the end is past, but the chips may still rest.
        for until, fine in ((24, False), (25, False), (26, True)):
            purse = self.lent()
            if fine:
                self.check_same(purse.prolong(27, 2, until), ("extend", "r", "x", 2, until))
            else:
                self.refused(purse, Over, [until], purse.prolong, 27, 2, until)

    def test_a_loan_that_has_come_back(self):
        purse = self.lent()
        self.check_same(purse.copy().prolong(30, 2, 50), ("extend", "r", "x", 2, 50))
        self.refused(purse, UnknownLoan, [2], purse.prolong, 31, 2, 50)

    def test_the_first_place_has_no_end(self):
        purse = Purse(TREE, "sa", 0)
        purse.lend(0, "a", "b", 2, until=5)
        self.check_same(purse.prolong(0, 1, 100000), ("extend", "r", "b", 1, 100000))

    def test_unknown_loans(self):
        purse = self.lent()
        for number in NOT_NUMBERS + [0, -1, 1, 3, 4]:
            self.refused(purse, UnknownLoan, [number], purse.prolong, 3, number, None)
        purse = Purse(TREE, "sa", 0)
        purse.lend(0, "a", "b", 2, until=5)
        self.refused(purse, UnknownLoan, [True], purse.prolong, 0, True, 7)

    def test_wrong_untils(self):
        purse = self.lent()
        for until in NOT_NUMBERS + [0, -1]:
            self.refused(purse, Over, [until], purse.prolong, 3, 2, until)

    def test_a_loan_in_another_lot(self):
        purse = self.lent()
        purse.lend(0, "c", "d", 2, until=30)
        purse.lend(0, "d", "y", 1, until=15)
        purse.recall(1, "c", 1)
        self.check_same(purse.lots("b")[0][5], ((2, "x", 5, 20, None, ()), (4, "y", 1, 15, None, ())))
        self.check_same(purse.prolong(1, 4, 60), ("extend", "r", "y", 4, 60))


class GivingBack(PurseCase):
    def test_ready_ones_on_the_same_server(self):
        purse = middle((4, 9, 60))
        purse.lend(0, "b", "c", 5, until=40)
        self.assertIsNone(purse.give_back(1, "c", 1, [(0, 2)]))
        self.check_same(purse.lots("b"), [(4, 60, None, 6, (), ((1, "c", 3, None, 40, ()),), 0)])
        self.check_same(purse.lots("c"), [(1, 60, 40, 3, (), (), 0)])
        self.assertIsNone(purse.give_back(reading=1, place="c", lot=1, parts=((0, 3),)))
        self.check_same([purse.lots("b"), purse.lots("c")], [[(4, 60, None, 9, (), (), 0)], []])

    def test_resting_ones_on_the_same_server(self):
        purse = middle((4, 9, 60))
        purse.use(1, "b", 1)
        purse.lend(1, "b", "c", 6)
        purse.use(1, "c", 2)
        purse.use(2, "c", 1)
        self.assertIsNone(purse.give_back(3, "c", 1, [(0, 1), (13, 1), (14, 1)]))
        self.check_same(purse.lots("b"), [(4, 60, None, 3, ((13, 2), (14, 1)), ((1, "c", 3, None, None, ()),), 0)])
        self.check_same(purse.lots("c"), [(1, 60, None, 2, ((13, 1),), (), 0)])
        self.check_same(len(purse), 9)

    def test_a_lot_with_loans_stays(self):
        purse = middle((4, 9, 60))
        purse.lend(0, "b", "c", 6)
        purse.lend(0, "c", "d", 2)
        purse.give_back(1, "c", 1, [(0, 4)])
        self.check_same(purse.lots("c"), [(1, 60, None, 0, (), ((2, "d", 2, None, None, ()),), 0)])
        self.check_same(purse.lots("b"), [(4, 60, None, 7, (), ((1, "c", 2, None, None, ()),), 0)])
        purse.give_back(1, "d", 2, [(0, 2)])
        self.check_same(purse.lots("c"), [(1, 60, None, 2, (), (), 0)])

    def test_by_letters_that_are_counted(self):
        purse = middle((4, 9, 60), (6, 5, 70))
        purse.use(1, "b", 2, lot=4)
        self.check_same(purse.give_back(1, "b", 4, [(0, 1)]), ("back", "r", "b", 4, 1, ((0, 1),)))
        self.check_same(purse.give_back(1, "b", 6, [(0, 2)]), ("back", "r", "b", 6, 1, ((0, 2),)))
        self.check_same(purse.give_back(1, "b", 4, [(0, 1), (13, 1)]), ("back", "r", "b", 4, 2, ((0, 1), (13, 1))))
        self.check_same(purse.lots("b"), [(4, 60, None, 5, ((13, 1),), (), 2), (6, 70, None, 3, (), (), 1)])
        self.check_same(purse.give_back(1, "b", 4, ((0, 5), (13, 1))), ("back", "r", "b", 4, 3, ((0, 5), (13, 1))))
        self.check_same([lot[0] for lot in purse.lots("b")], [6])
        self.check_same(purse.remembered(), {4: 60, 6: 70})

    def test_a_lot_with_loans_stays_behind_its_letter(self):
        purse = middle((4, 9, 60))
        purse.lend(0, "b", "x", 6, until=20)
        purse.give_back(1, "b", 4, [(0, 3)])
        self.check_same(purse.lots("b"), [(4, 60, None, 0, (), ((1, "x", 6, 20, None, ()),), 1)])

    def test_a_lot_with_an_end_at_high(self):
        purse = middle((4, 9, 30))
        self.check_same(purse.give_back(31, "b", 4, [(0, 9)]), ("back", "r", "b", 4, 1, ((0, 9),)))
        purse = middle((4, 9, 30))
        self.refused(purse, UnknownLot, ["b", 4], purse.give_back, 32, "b", 4, [(0, 9)])

    def test_parts_are_those_behind_settling(self):
        purse = middle((4, 9, 60))
        purse.use(1, "b", 2)
        self.refused(purse, NotHeld, ["b", 2], purse.give_back, 15, "b", 4, [(13, 2)])
        self.check_same(purse.copy().give_back(14, "b", 4, [(13, 2)]), ("back", "r", "b", 4, 1, ((13, 2),)))
        self.check_same(purse.give_back(0, "b", 4, [(12, 2)]), ("back", "r", "b", 4, 1, ((12, 2),)))

    def test_unknown_names_and_lots(self):
        purse = middle((4, 9, 60))
        for place in NOT_PLACES:
            self.refused(purse, UnknownName, [place], purse.give_back, 1, place, None, None)
        for lot in NOT_NUMBERS + [0, 1, -1]:
            self.refused(purse, UnknownLot, ["b", lot], purse.give_back, 1, "b", lot, None)
        purse.lend(0, "b", "c", 1)
        self.refused(purse, UnknownLot, ["c", True], purse.give_back, 1, "c", True, [(0, 1)])

    def test_the_first_place(self):
        purse = Purse(TREE, "sa", 0)
        self.refused(purse, UnknownLot, ["a", 1], purse.give_back, 1, "a", 1, None)
        self.refused(purse, NoElder, ["a"], purse.give_back, 1, "a", 0, None)
        self.refused(purse, UnknownLot, ["a", False], purse.give_back, 1, "a", False, None)

    def test_wrong_parts(self):
        purse = middle((4, 9, 60))
        purse.use(2, "b", 3)
        for parts in NOT_PARTS:
            self.refused(purse, InvalidParts, [parts], purse.give_back, 3, "b", 4, parts)

    def test_parts_that_are_not_held(self):
        purse = middle((4, 9, 60))
        purse.use(2, "b", 3)
        for parts, n in (
            ([(0, 7)], 7), ([(0, 6), (14, 4)], 4), ([(0, 7), (14, 4)], 7), ([(13, 1)], 1), ([(0, 1), (13, 2), (14, 9)], 2),
            ([(14, 3), (15, 5)], 5),
        ):
            self.refused(purse, NotHeld, ["b", n], purse.give_back, 3, "b", 4, parts)
        self.check_same(purse.give_back(3, "b", 4, [(0, 6), (14, 3)])[4], 1)


class Recalling(PurseCase):
    def chain(self):
        """Lots one beneath another one, with loans to other servers among them."""
        purse = middle((4, 20, 60))
        purse.lend(0, "b", "c", 15, until=50)
        purse.lend(0, "c", "d", 10)
        purse.lend(0, "d", "m", 3, until=40)
        purse.lend(0, "d", "y", 2, until=30)
        purse.lend(0, "b", "x", 1, until=20)
        purse.use(1, "c", 1)
        purse.use(1, "d", 2)
        purse.use(2, "m", 1)
        return purse

    def test_a_lot_alone(self):
        purse = self.chain()
        self.assertIsNone(purse.recall(3, "m", 3))
        self.check_same(purse.lots("m"), [])
        self.check_same(purse.lots("d"), [(2, 60, 50, 5, ((13, 2), (14, 1)), ((4, "y", 2, 30, None, ()),), 0)])
        self.check_same(purse.lots("c")[0][5], ((2, "d", 10, None, 50, ()),))

    def test_all_beneath_it(self):
        purse = self.chain()
        purse.recall(reading=3, place="c", lot=1)
        self.check_same([purse.lots("c"), purse.lots("d"), purse.lots("m")], [[], [], []])
        self.check_same(purse.lots("b"), [
            (4, 60, None, 13, ((13, 3), (14, 1)), ((4, "y", 2, 30, None, ()), (5, "x", 1, 20, None, ())), 0)])
        self.check_same(len(purse), 20)

    def test_an_until_above_it_comes_home_in_the_same_way(self):
        recalled, fallen = self.chain(), self.chain()
        fallen.settle(48)
        recalled.recall(47, "d", 2)
        recalled.recall(47, "c", 1)
        recalled.settle(48)
        self.check_same(facts(fallen), facts(recalled))

    def test_other_lots_stay(self):
        purse = middle((4, 9, 60), (5, 9, 70))
        purse.lend(0, "b", "c", 4, lot=4)
        purse.lend(0, "b", "c", 4, lot=5)
        purse.recall(1, "c", 2)
        self.check_same(purse.lots("c"), [(1, 60, None, 4, (), (), 0)])
        self.check_same(purse.lots("b"), [
            (4, 60, None, 5, (), ((1, "c", 4, None, None, ()),), 0), (5, 70, None, 9, (), (), 0)])

    def test_a_loan_that_came_home_takes_its_letter_back(self):
        purse = self.chain()
        purse.recall(3, "c", 1)
        self.check_same(purse.receive(4, ("back", "r", "y", 4, 1, ((0, 2),))), True)
        self.check_same(purse.lots("b")[0][3:6], (15, ((13, 3), (14, 1)), ((5, "x", 1, 20, None, ()),)))

    def test_errors_of_recall(self):
        purse = self.chain()
        for place in NOT_PLACES:
            self.refused(purse, UnknownName, [place], purse.recall, 3, place, None)
        for lot in NOT_NUMBERS + [0, 2, -1]:
            self.refused(purse, UnknownLot, ["c", lot], purse.recall, 3, "c", lot)
            self.refused(purse, UnknownLot, ["b", lot], purse.recall, 3, "b", lot)
        self.refused(purse, NoElder, ["b"], purse.recall, 3, "b", 4)
        self.refused(purse, BadReading, ["sb", -3], purse.recall, -3, "b", 4)
        first = Purse(TREE, "sa", 0)
        self.refused(first, UnknownLot, ["a", 1], first.recall, 0, "a", 1)
        self.refused(first, NoElder, ["a"], first.recall, 0, "a", 0)

    def test_what_has_fallen_home_is_unknown(self):
        purse = self.chain()
        self.refused(purse, UnknownLot, ["m", 3], purse.recall, 38, "m", 3)
        purse.recall(37, "m", 3)


if __name__ == "__main__":
    unittest.main()
