"""Deeds: their forms, and doing them on a purse."""

import unittest

from support import NOT_NUMBERS, PurseCase, facts

from surelet.deeds import is_deed, perform
from surelet.errors import (
    BadReading, InvalidDeed, InvalidParts, NoElder, NotHeld, Over, UnknownLoan, UnknownLot, UnknownName, WrongLetter,
)
from surelet.purses import Purse
from surelet.rests import Window
from surelet.rules import Rule
from surelet.trees import Place, Tree
from surelet.words import is_name

LETTERS = [
    ("lend", "r", "b", 4, 9, 60),
    ("extend", "r", "b", 4, 70),
    ("back", "r", "x", 1, 1, ((0, 2), (20, 1))),
]
# Each deed, with what its items are: n a number, w a name, m a number or None, l a letter, a any value.
DEEDS = [
    (("tick", 3), "n"),
    (("request", 3, "ann", 2), "nwn"),
    (("enter", 3, "desk", "ann", 2, 9), "nwwnm"),
    (("use", 3, "r", "b", 2, 4), "nwwnm"),
    (("lend", 3, "r", "b", "c", 2, 30, 4), "nwwwnmm"),
    (("prolong", 3, "r", 2, 30), "nwnm"),
    (("give", 3, "r", "b", 4, ((0, 2),)), "nwwna"),
    (("recall", 3, "r", "b", 4), "nwwn"),
    (("receive", 3, LETTERS[0]), "nl"),
    (("receive", 3, LETTERS[1]), "nl"),
    (("receive", 3, LETTERS[2]), "nl"),
    (("carry", 3, 0), "nn"),
]
PURSE_DEEDS = [deed for deed, _ in DEEDS if deed[0] not in ("request", "enter", "carry")]
NUMBERS = [0, -1, -99, 10 ** 12, 5]
NAMES = ["a", "zz", "abcdefgh", "a1"]
TREE = Tree(
    Rule("r", 30, Window(10)), Place("a", "sa"), Place("b", "sb", "a"), Place("c", "sb", "b"), Place("x", "sc", "b"),
)


def changed(values, at, value):
    """The same tuple with another item."""
    return values[:at] + (value,) + values[at + 1:]


def fits(kind, value):
    """Whether a value may stand where this kind of item is asked for."""
    if kind == "n":
        return type(value) is int
    if kind == "m":
        return value is None or type(value) is int
    if kind == "w":
        return is_name(value)
    return kind == "a" or value in LETTERS


def middle():
    """The purse of sb, which has lots at b and c and a loan to x."""
    purse = Purse(TREE, "sb", 2)
    purse.receive(0, LETTERS[0])
    purse.lend(0, "b", "c", 3, until=40)
    purse.lend(0, "b", "x", 4, until=30)
    return purse


class Forms(PurseCase):
    def test_each_word(self):
        for deed, _ in DEEDS:
            self.assertIs(is_deed(deed), True, deed)
            self.assertIs(is_deed(value=deed), True)

    def test_more_and_fewer_items(self):
        for deed, _ in DEEDS:
            for value in (deed + (1,), deed + (None,), deed[:-1], deed[1:], deed[:1], (), list(deed)):
                self.assertIs(is_deed(value), False, value)
            for word in ("", "Tick", "settle", "pay", "give_back", "deed", "lose", "tick ", None, 1, [], {}, ("tick",)):
                self.assertIs(is_deed((word,) + deed[1:]), False, word)

    def test_items_of_other_kinds(self):
        for deed, kinds in DEEDS:
            for at, kind in enumerate(kinds):
                for value in NOT_NUMBERS + NUMBERS + NAMES + LETTERS + ["A", "abcdefghi", "1a", "", 1.0]:
                    self.assertIs(is_deed(changed(deed, at + 1, value)), fits(kind, value), (deed, at, value))

    def test_any_value(self):
        for value in NOT_NUMBERS + [5, "tick", ("tick",), (("tick", 1),), LETTERS[0], ("deed", 0, "sa", ("tick", 0))]:
            self.assertIs(is_deed(value), False, value)

    def test_letters_of_each_form(self):
        for letter in LETTERS:
            for other in (letter + (1,), letter[:-1], list(letter), letter[1:], ("",) + letter[1:], letter[:1]):
                self.assertIs(is_deed(("receive", 3, other)), False, other)
            for at in range(1, len(letter)):
                kind = "w" if at < 3 else "n"
                for value in NOT_NUMBERS + NUMBERS + NAMES:
                    if letter[0] == "back" and at == 5:
                        continue
                    other = changed(letter, at, value)
                    self.assertIs(is_deed(("receive", 3, other)), fits(kind, value), other)

    def test_parts_of_letters(self):
        back = LETTERS[2]
        for parts in ((), ((0, 1),), ((5, 1), (4, -1)), ((-3, 0), (-3, 0)), ((10 ** 12, 5),)):
            self.assertIs(is_deed(("receive", 3, changed(back, 5, parts))), True, parts)
        for parts in (None, 1, True, "", [], [(0, 1)], ([0, 1],), ((0,),), ((0, 1, 1),), ((0, True),), ((None, 1),),
                      ((0, 1), 1), ((0, 1), None), ("01",), {}, {(0, 1): 1}):
            self.assertIs(is_deed(("receive", 3, changed(back, 5, parts))), False, parts)

    def test_other_letters(self):
        for word in ("carry", "give", "receive", "Lend", None, 1, []):
            self.assertIs(is_deed(("receive", 3, (word, "r", "b", 4, 9, 60))), False)


class Performing(PurseCase):
    def test_each_word(self):
        calls = {
            ("tick", 3): lambda purse: purse.settle(3),
            ("use", 3, "r", "b", 2, None): lambda purse: purse.use(3, "b", 2),
            ("use", 3, "r", "b", 2, 4): lambda purse: purse.use(3, "b", 2, lot=4),
            ("lend", 3, "r", "b", "c", 1, None, None): lambda purse: purse.lend(3, "b", "c", 1),
            ("lend", 3, "r", "b", "c", 1, 20, 4): lambda purse: purse.lend(3, "b", "c", 1, until=20, lot=4),
            ("lend", 3, "r", "b", "x", 1, 20, None): lambda purse: purse.lend(3, "b", "x", 1, until=20),
            ("prolong", 3, "r", 2, 50): lambda purse: purse.prolong(3, 2, 50),
            ("give", 3, "r", "c", 1, ((0, 1),)): lambda purse: purse.give_back(3, "c", 1, ((0, 1),)),
            ("give", 3, "r", "b", 4, ((0, 1),)): lambda purse: purse.give_back(3, "b", 4, ((0, 1),)),
            ("recall", 3, "r", "c", 1): lambda purse: purse.recall(3, "c", 1),
            ("receive", 3, ("lend", "r", "b", 5, 1, 20)): lambda purse: purse.receive(3, ("lend", "r", "b", 5, 1, 20)),
            ("receive", 3, LETTERS[0]): lambda purse: purse.receive(3, LETTERS[0]),
            ("receive", 3, LETTERS[1]): lambda purse: purse.receive(3, LETTERS[1]),
            ("receive", 3, ("back", "r", "x", 2, 1, ((0, 1),))): lambda purse: purse.receive(
                3, ("back", "r", "x", 2, 1, ((0, 1),))),
        }
        for deed, call in calls.items():
            one, other = middle(), middle()
            self.check_same(perform(one, deed), call(other))
            self.check_same(facts(one), facts(other))
            self.assertNotEqual(facts(one), facts(middle()))
        one = middle()
        self.check_same(perform(purse=one, deed=("give", 3, "r", "b", 4, [(0, 1)])), ("back", "r", "b", 4, 1, ((0, 1),)))

    def test_values_that_are_no_deeds(self):
        purse = middle()
        for value in NOT_NUMBERS + [5, ("tick",), ["tick", 3], ("tick", True), LETTERS[0], ("pay", 3, [], 1)]:
            self.refused(purse, InvalidDeed, [value], perform, purse, value)
        for deed, _ in DEEDS:
            self.refused(purse, InvalidDeed, [deed + (1,)], perform, purse, deed + (1,))
        for deed in (("request", 3, "ann", 2), ("enter", 3, "desk", "ann", 2, 9), ("carry", 3, 0), ("request", 3, "r", 2),
                     ("enter", 3, "r", "b", 2, 9), ("enter", 3, "r", "b", 2, None)):
            self.refused(purse, InvalidDeed, [deed], perform, purse, deed)

    def test_other_rules(self):
        purse = middle()
        for deed in PURSE_DEEDS:
            if deed[0] == "receive":
                letter = changed(deed[2], 1, "q")
                self.refused(purse, WrongLetter, [letter], perform, purse, ("receive", -99, letter))
            elif deed[0] != "tick":
                other = changed(changed(deed, 2, "q"), 1, -99)
                self.refused(purse, InvalidDeed, [other], perform, purse, other)

    def test_what_the_operation_raises(self):
        purse = middle()
        purse.settle(20)
        for deed, error, values in (
            (("tick", 15), BadReading, ["sb", 15]),
            (("receive", 15, LETTERS[0]), BadReading, ["sb", 15]),
            (("receive", 20, ("lend", "r", "c", 4, 9, 60)), WrongLetter, [("lend", "r", "c", 4, 9, 60)]),
            (("receive", 20, ("lend", "r", "b", 4, 0, 60)), WrongLetter, [("lend", "r", "b", 4, 0, 60)]),
            (("use", 20, "r", "x", 1, None), UnknownName, ["x"]),
            (("use", 20, "r", "b", 1, 7), UnknownLot, ["b", 7]),
            (("use", 20, "r", "b", -1, None), NotHeld, ["b", -1]),
            (("lend", 20, "r", "b", "x", 1, None, None), Over, [None]),
            (("prolong", 20, "r", 7, None), UnknownLoan, [7]),
            (("prolong", 20, "r", 2, None), Over, [None]),
            (("give", 20, "r", "b", 4, None), InvalidParts, [None]),
            (("recall", 20, "r", "b", 4), NoElder, ["b"]),
        ):
            self.refused(purse, error, values, perform, purse, deed)


if __name__ == "__main__":
    unittest.main()
