"""Purses: letters that are received, late, often and in any order."""

import itertools
import unittest

from support import NOT_NUMBERS, PurseCase, facts

from surelet.errors import BadReading, WrongLetter
from surelet.purses import Purse
from surelet.rests import Window
from surelet.rules import Rule
from surelet.trees import Place, Tree

# a on sa; b, c and d hang together on sb; x beneath b and y beneath d on sc and sd; z beneath y on sd.
TREE = Tree(
    Rule("r", 40, Window(10)), Place("a", "sa"), Place("b", "sb", "a"), Place("c", "sb", "b"), Place("d", "sb", "c"),
    Place("x", "sc", "b"), Place("y", "sd", "d"), Place("z", "sd", "y"),
)
LEND = ("lend", "r", "b", 4, 9, 60)
EXTEND = ("extend", "r", "b", 4, 70)
BACK = ("back", "r", "x", 1, 1, ((0, 2), (20, 1)))
WRONG_NUMBERS = NOT_NUMBERS + [0, -1]


def middle(error=2):
    """The purse of sb, behind a letter lend."""
    purse = Purse(TREE, "sb", error)
    purse.receive(0, LEND)
    return purse


def lender(error=2):
    """The purse of sb, which has lent 6 chips to x until 30."""
    purse = middle(error)
    purse.lend(0, "b", "x", 6, until=30)
    return purse


class Lends(PurseCase):
    def test_a_lot_is_made(self):
        purse = Purse(TREE, "sb", 2)
        self.check_same(purse.receive(reading=3, letter=LEND), True)
        self.check_same(purse.lots("b"), [(4, 60, None, 9, (), (), 0)])
        self.check_same([purse.remembered(), purse.past, purse.last_reading], [{4: 60}, 1, 3])

    def test_an_end_at_low(self):
        for reading, made in ((61, True), (62, False), (63, False)):
            purse = Purse(TREE, "sb", 2)
            self.check_same(purse.receive(reading, LEND), made)
            self.check_same([len(purse), purse.remembered()], [9 if made else 0, {4: 60} if made else {}])
            self.check_same(purse.last_reading, reading)

    def test_it_comes_once_more(self):
        purse = middle()
        ahead = facts(purse)
        self.check_same(purse.receive(0, LEND), False)
        self.check_same(facts(purse), ahead)

    def test_it_comes_once_more_behind_the_lot(self):
        purse = middle()
        purse.give_back(1, "b", 4, [(0, 9)])
        self.check_same([purse.lots("b"), purse.remembered()], [[], {4: 60}])
        self.check_same(purse.receive(2, LEND), False)
        self.check_same(purse.lots("b"), [])

    def test_it_comes_once_more_behind_its_end_but_not_that_of_the_lot(self):
        purse = middle()
        purse.receive(1, EXTEND)
        self.check_same(purse.remembered(), {4: 60})
        purse.settle(65)
        self.check_same([purse.remembered(), len(purse)], [{}, 9])
        self.check_same(purse.receive(65, ("lend", "r", "b", 4, 3, 90)), False)
        self.check_same([purse.lots("b"), purse.remembered()], [[(4, 70, None, 9, (), (), 0)], {}])

    def test_the_remembered_end_is_that_of_the_letter(self):
        purse = middle()
        purse.receive(1, ("lend", "r", "b", 5, 1, 61))
        purse.receive(1, ("extend", "r", "b", 5, 90))
        self.check_same(purse.remembered(), {4: 60, 5: 61})

    def test_a_copy_and_a_restored_purse_remember(self):
        purse = middle()
        purse.give_back(1, "b", 4, [(0, 9)])
        for other in (purse.copy(), Purse.restored(TREE, "sb", 2, purse.table(), 1)):
            self.check_same(other.receive(2, LEND), False)

    def test_an_earlier_reading_behind_the_end(self):
        purse = middle()
        purse.settle(62)
        self.check_same([purse.lots("b"), purse.remembered()], [[], {}])
        for other in (purse, purse.copy(), Purse.restored(TREE, "sb", 2, purse.table(), 59)):
            self.check_same(other.receive(58, LEND), False)
            self.check_same([other.lots("b"), other.remembered(), other.past], [[], {}, 60])

    def test_numbers_of_other_lots(self):
        purse = middle()
        purse.lend(0, "b", "c", 2)
        self.check_same(purse.receive(0, ("lend", "r", "b", 1, 5, 50)), True)
        self.check_same([lot[0] for lot in purse.lots("b")], [1, 4])
        self.check_same(purse.lots("c"), [(1, 60, None, 2, (), (), 0)])


class Extends(PurseCase):
    def test_all_lots_beneath_become_later(self):
        purse = middle()
        purse.lend(0, "b", "c", 6, until=50)
        purse.lend(0, "c", "d", 4)
        purse.lend(0, "d", "y", 2, until=30)
        purse.receive(0, ("lend", "r", "b", 8, 2, 60))
        purse.lend(0, "b", "c", 1, lot=8)
        self.check_same(purse.receive(1, EXTEND), True)
        self.check_same([lot[:2] for lot in purse.lots("b")], [(4, 70), (8, 60)])
        self.check_same([lot[:3] for lot in purse.lots("c")], [(1, 70, 50), (4, 60, None)])
        self.check_same(purse.lots("d"), [(2, 70, 50, 2, (), ((3, "y", 2, 30, None, ()),), 0)])

    def test_an_end_that_is_not_later(self):
        for end, later in ((59, False), (60, False), (61, True)):
            purse = middle()
            self.check_same(purse.receive(1, ("extend", "r", "b", 4, end)), later)
            self.check_same(purse.lot("b", 4)[1], 61 if later else 60)

    def test_an_unknown_lot(self):
        purse = middle()
        purse.lend(0, "b", "c", 1)
        self.check_same(purse.receive(1, ("extend", "r", "b", 1, 70)), False)
        purse.settle(62)
        self.check_same(purse.receive(62, EXTEND), False)
        self.check_same(Purse(TREE, "sb", 2).receive(0, EXTEND), False)

    def test_letters_out_of_order_and_doubled(self):
        letters = [LEND, EXTEND, ("extend", "r", "b", 4, 80), LEND, EXTEND]
        for order in itertools.permutations(letters):
            purse = Purse(TREE, "sb", 2)
            behind = [letter for letter in order[order.index(LEND):] if letter[0] == "extend"]
            for letter in order:
                purse.receive(1, letter)
            end = max([60] + [letter[4] for letter in behind])
            self.check_same(purse.lots("b"), [(4, end, None, 9, (), (), 0)])

    def test_prolonged_from_end_to_end(self):
        first = Purse(TREE, "sa", 0)
        purse = Purse(TREE, "sb", 0)
        _, letter = first.lend(0, "a", "b", 5, until=20)
        purse.receive(1, letter)
        purse.lend(1, "b", "c", 5)
        self.check_same(purse.receive(19, first.prolong(18, 1, 40)), True)
        self.check_same(purse.use(25, "c", 5), [("c", 1, 5)])
        purse.settle(39)
        self.check_same([purse.usable("c"), first.ready_chips], [5, 35])
        purse.settle(40)
        first.settle(48)
        self.check_same([len(purse), first.ready_chips], [0, 35])
        first.settle(49)
        self.check_same(first.ready_chips, 40)


class Backs(PurseCase):
    def test_ready_and_resting_parts(self):
        purse = lender()
        self.check_same(purse.receive(5, ("back", "r", "x", 1, 1, ((0, 2), (14, 1)))), True)
        self.check_same(purse.lots("b"), [(4, 60, None, 5, ((14, 1),), ((1, "x", 3, 30, None, (1,)),), 0)])
        self.check_same([len(purse), purse.ready_chips], [9, 5])

    def test_the_stamp_of_each_part(self):
        # At 5 high is 7, so rest(high) is 17; the loan ends at 30, so rest(end - 1) is 39.
        for f, stamp in ((3, 0), (4, 4), (16, 16), (17, 17), (18, 17), (99, 17)):
            purse = lender()
            purse.receive(5, ("back", "r", "x", 1, 1, ((f, 1),)))
            resting = ((stamp, 1),) if stamp else ()
            self.check_same(purse.lot("b", 4)[3:5], (3 if stamp else 4, resting))
        # A loan until 4 with rest(end - 1) at 13; another reading with low at 13 has it back already.
        for reading, f, stamp in ((14, 12, 0), (14, 13, 13), (14, 14, 13), (13, 20, 13), (0, 20, 12), (1, 20, 13)):
            purse = middle()
            purse.lend(0, "b", "x", 6, until=4)
            self.check_same(purse.receive(reading, ("back", "r", "x", 1, 1, ((f, 1),))), True)
            self.check_same(purse.lot("b", 4)[4], ((stamp, 1),) if stamp else ())

    def test_a_loan_that_is_home_already(self):
        purse = lender()
        self.check_same(purse.copy().receive(40, BACK), True)
        self.check_same(purse.receive(41, BACK), False)
        self.check_same(purse.lots("b"), [(4, 60, None, 9, (), (), 0)])

    def test_a_letter_with_the_whole_loan(self):
        purse = lender()
        self.check_same(purse.receive(5, ("back", "r", "x", 1, 1, ((0, 6),))), True)
        self.check_same(purse.lots("b"), [(4, 60, None, 9, (), (), 0)])
        self.check_same(purse.receive(5, ("back", "r", "x", 1, 1, ((0, 6),))), False)

    def test_a_letter_with_more_than_the_loan(self):
        purse = lender()
        for parts in (((0, 7),), ((0, 6), (9, 1)), ((0, 3), (9, 2), (11, 2))):
            self.check_same(purse.receive(5, ("back", "r", "x", 1, 1, parts)), False)
        self.check_same(purse.lots("b"), [(4, 60, None, 3, (), ((1, "x", 6, 30, None, ()),), 0)])
        self.check_same(purse.receive(5, ("back", "r", "x", 1, 1, ((0, 4),))), True)
        self.check_same(purse.receive(5, ("back", "r", "x", 1, 2, ((0, 3),))), False)
        self.check_same(purse.receive(5, ("back", "r", "x", 1, 2, ((0, 2),))), True)

    def test_a_doubled_letter(self):
        purse = lender()
        self.check_same(purse.receive(5, BACK), True)
        ahead = facts(purse)
        self.check_same(purse.receive(5, BACK), False)
        self.check_same(purse.receive(5, ("back", "r", "x", 1, 1, ((0, 1),))), False)
        self.check_same(facts(purse), ahead)

    def test_more_than_ten_letters_in_any_order(self):
        for seed in range(5):
            purse = middle()
            purse.receive(0, ("lend", "r", "b", 6, 30, 90))
            purse.lend(0, "b", "x", 13, until=80, lot=6)
            counts = list(range(1, 13))
            counts = counts[seed:] + counts[:seed][::-1]
            for k in counts:
                self.check_same(purse.receive(1, ("back", "r", "x", 1, k, ((0, 1),))), True)
                self.check_same(purse.receive(1, ("back", "r", "x", 1, k, ((0, 1),))), False)
            loan = (1, "x", 1, 80, None, tuple(range(1, 13)))
            self.check_same(purse.lot("b", 6)[5], (loan,))
            restored = Purse.restored(TREE, "sb", 2, purse.table(), 1)
            self.check_same(restored.lot("b", 6)[5], (loan,))
            for k in counts:
                self.check_same(restored.receive(1, ("back", "r", "x", 1, k, ((0, 1),))), False)

    def test_other_places_and_numbers(self):
        purse = lender()
        purse.lend(0, "b", "c", 2)
        for letter in (("back", "r", "y", 1, 1, ((0, 1),)), ("back", "r", "x", 2, 1, ((0, 1),)),
                       ("back", "r", "x", 3, 1, ((0, 1),)), ("back", "r", "x", 4, 1, ((0, 1),))):
            self.check_same(purse.receive(5, letter), False)

    def test_a_loan_in_a_lower_lot(self):
        purse = middle()
        purse.lend(0, "b", "c", 6, until=50)
        purse.lend(0, "c", "d", 4)
        purse.lend(0, "d", "y", 3, until=30)
        self.check_same(purse.copy().receive(5, ("back", "r", "y", 3, 1, ((0, 1), (9, 1)))), True)
        purse.receive(5, ("back", "r", "y", 3, 1, ((0, 1), (9, 1))))
        self.check_same(purse.lots("d"), [(2, 60, 50, 2, ((9, 1),), ((3, "y", 1, 30, None, (1,)),), 0)])
        self.check_same(purse.lots("c")[0][5], ((2, "d", 4, None, 50, ()),))
        purse.recall(6, "c", 1)
        self.check_same(purse.receive(6, ("back", "r", "y", 3, 2, ((0, 1),))), True)
        self.check_same(purse.lots("b"), [(4, 60, None, 8, ((9, 1),), (), 0)])

    def test_the_end_of_the_loan_counts_that_was_prolonged(self):
        purse = middle()
        purse.lend(0, "b", "x", 6, until=4)
        purse.prolong(0, 1, 8)
        purse.receive(13, ("back", "r", "x", 1, 1, ((20, 1),)))
        self.check_same(purse.lot("b", 4)[4], ((17, 1),))


class Wrong(PurseCase):
    def wrong(self, purse, letter):
        self.refused(purse, WrongLetter, [letter], purse.receive, 5, letter)

    def test_values_that_are_no_letters(self):
        purse = lender()
        for value in NOT_NUMBERS + [5, ("lend",), ("give", "r", "b", 4, 9, 60), (["lend"], "r", "b", 4, 9, 60)]:
            self.wrong(purse, value)
        for letter in (LEND, EXTEND, BACK):
            for other in (list(letter), letter[:-1], letter + (1,), ("",) + letter[1:], (None,) + letter[1:],
                          letter[1:], ("LEND",) + letter[1:]):
                self.wrong(purse, other)

    def test_other_rules(self):
        purse = lender()
        for letter in (LEND, EXTEND, BACK):
            for rule in NOT_NUMBERS + ["q", "rr", 5]:
                self.wrong(purse, letter[:1] + (rule,) + letter[2:])

    def test_places_that_do_not_receive_here(self):
        purse = lender()
        for letter in (LEND, EXTEND):
            for place in NOT_NUMBERS + ["a", "c", "d", "x", "y", "z", "q", "sb", 5]:
                self.wrong(purse, letter[:2] + (place,) + letter[3:])
        for place in NOT_NUMBERS + ["a", "b", "c", "d", "z", "q", "sb", 5]:
            self.wrong(purse, BACK[:2] + (place,) + BACK[3:])

    def test_the_first_server(self):
        purse = Purse(TREE, "sa", 2)
        for place in "abcdxyz":
            self.wrong(purse, ("lend", "r", place, 1, 1, 60))
            self.wrong(purse, ("extend", "r", place, 1, 60))
            if place != "b":
                self.wrong(purse, ("back", "r", place, 1, 1, ((0, 1),)))
        self.check_same(purse.receive(5, ("back", "r", "b", 1, 1, ((0, 1),))), False)

    def test_a_server_with_its_own_children(self):
        purse = Purse(TREE, "sd", 2)
        self.check_same(purse.receive(5, ("lend", "r", "y", 1, 1, 60)), True)
        for place in "abcdxz":
            self.wrong(purse, ("lend", "r", place, 1, 1, 60))
        for place in "abcdxyz":
            self.wrong(purse, ("back", "r", place, 1, 1, ((0, 1),)))

    def test_wrong_numbers(self):
        purse = lender()
        for letter, places in ((LEND, (3, 4, 5)), (EXTEND, (3, 4)), (BACK, (3, 4))):
            for at in places:
                for value in WRONG_NUMBERS:
                    self.wrong(purse, letter[:at] + (value,) + letter[at + 1:])
        for letter in (("lend", "r", "b", 1, 1, 3), ("extend", "r", "b", 1, 1), ("back", "r", "x", 1, 1, ((0, 1),))):
            self.assertIsInstance(purse.copy().receive(5, letter), bool)

    def test_wrong_parts(self):
        purse = lender()
        for parts in NOT_NUMBERS + [
            5, ([0, 1],), [(0, 1)], ((0, 0),), ((0, -1),), ((-1, 1),), ((0, True),), ((False, 1),), ((0, 1), (0, 1)),
            ((5, 1), (4, 1)), ((0,),), ((0, 1, 1),), ((0, None),), ((None, 1),), ("01",),
        ]:
            self.wrong(purse, BACK[:5] + (parts,))

    def test_bad_readings_come_first(self):
        purse = lender()
        purse.settle(20)
        for letter in (None, LEND, BACK):
            self.refused(purse, BadReading, ["sb", 15], purse.receive, 15, letter)

    def test_nothing_is_settled_by_a_wrong_letter(self):
        purse = middle()
        purse.lend(0, "b", "c", 2, until=20)
        self.refused(purse, WrongLetter, [BACK[:5] + ((),)], purse.receive, 40, BACK[:5] + ((),))
        self.check_same(len(purse.lots("c")), 1)
        self.check_same(purse.receive(40, BACK), False)
        self.check_same([len(purse.lots("c")), purse.last_reading], [0, 40])


if __name__ == "__main__":
    unittest.main()
