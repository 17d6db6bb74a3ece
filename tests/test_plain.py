"""The plain house of a rule: its events, letters, uses and errors."""

import copy
import inspect
import random
import unittest

from support import NOT_NUMBERS, PurseCase, facts
from twins import trees

from surelet.errors import (
    BadMoment, BadReading, InvalidDeed, InvalidEvent, Missing, NoSuchLetter, NotHeld, SureletError, UnknownLot,
    UnknownName, WrongLetter,
)
from surelet.plain import Plain
from surelet.purses import Purse
from surelet.rests import Window
from surelet.rules import Rule, is_within
from surelet.trees import Place, Tree
from surelet.words import is_name

TREE = Tree(
    Rule("r", 5, Window(10)), Place("a", "sa"), Place("c", "sa", "a"), Place("b", "sb", "a"), Place("x", "sc", "b"),
)
ERRORS = {"sa": 1, "sb": 2, "sc": 0}


def deed(moment, server, *items):
    """An event deed."""
    return ("deed", moment, server, items)


def told(plain):
    """All that a plain house tells."""
    return [plain.now, plain.letters(), plain.uses()] + [facts(plain.purse(server)) for server in ERRORS]


class PlainCase(PurseCase):
    def check_refused(self, plain, error, values, event):
        """The event raises this error, and nothing is changed."""
        ahead = told(plain)
        self.check_error(error, values, plain.do, event)
        self.check_same(told(plain), ahead)

    def lent(self):
        """A plain house at the moment 3, with a letter that was carried and one that was not."""
        plain = Plain(TREE, ERRORS)
        plain.do(deed(1, "sa", "lend", 1, "r", "a", "b", 2, 40, None))
        plain.do(deed(2, "sb", "carry", 3, 0))
        plain.do(deed(3, "sb", "lend", 1, "r", "b", "x", 1, 30, 1))
        return plain


class Events(PlainCase):
    def test_a_new_one(self):
        plain = Plain(TREE, ERRORS)
        self.check_same([plain.now, plain.letters(), plain.uses()], [0, [], []])
        for server in ERRORS:
            self.check_same(facts(plain.purse(server)), facts(Purse(TREE, server, ERRORS[server])))
        self.assertIsInstance(inspect.getattr_static(Plain, "now"), property)
        self.check_same(told(Plain(tree=TREE, errors=dict(ERRORS))), told(plain))

    def test_each_word(self):
        plain = Plain(TREE, ERRORS)
        lend = ("lend", "r", "b", 1, 2, 40)
        self.check_same(plain.do(deed(1, "sa", "lend", 1, "r", "a", "b", 2, 40, None)), (1, lend))
        self.check_same(plain.do(deed(1, "sa", "lend", 1, "r", "a", "c", 1, None, 0)), (2, None))
        self.check_same(plain.do(deed(2, "sb", "carry", 3, 0)), True)
        self.check_same(plain.do(deed(2, "sb", "carry", 0, 0)), False)
        self.check_same(plain.do(event=deed(3, "sb", "use", 1, "r", "b", 1, None)), [("b", 1, 1)])
        self.check_same(plain.do(deed(3, "sa", "use", 4, "r", "a", 2, 0)), [("a", 0, 2)])
        extend = ("extend", "r", "b", 1, 50)
        self.check_same(plain.do(deed(5, "sa", "prolong", 5, "r", 1, 50)), extend)
        back = ("back", "r", "b", 1, 1, ((0, 1), (13, 1)))
        self.check_same(plain.do(deed(5, "sb", "give", 5, "r", "b", 1, [(0, 1), (13, 1)])), back)
        self.assertIsNone(plain.do(deed(5, "sa", "give", 5, "r", "c", 2, ((0, 1),))))
        self.check_same(plain.do(deed(6, "sa", "lend", 5, "r", "a", "c", 1, None, None)), (3, None))
        self.assertIsNone(plain.do(deed(6, "sa", "recall", 5, "r", "c", 3)))
        self.check_same(plain.do(deed(7, "sa", "carry", 7, 2)), True)
        self.check_same(plain.do(deed(7, "sb", "carry", 7, 1)), False)
        self.assertIsNone(plain.do(deed(8, "sc", "tick", 8)))
        self.check_same(plain.letters(), [lend, extend, back])
        self.check_same(plain.uses(), [(3, 1), (3, 2)])
        self.check_same([plain.now, plain.purse("sc").last_reading], [8, 8])
        self.check_same(plain.purse("sa").lots("a"), [(0, None, None, 2, ((13, 1), (15, 2)), (), 0)])

    def test_the_live_purse(self):
        plain = self.lent()
        purse = plain.purse(server="sb")
        plain.do(deed(3, "sb", "use", 3, "r", "b", 1, None))
        self.assertIs(plain.purse("sb"), purse)
        self.check_same(purse.lots("b")[0][3], 0)

    def test_told_lists_may_be_changed(self):
        plain = self.lent()
        plain.do(deed(3, "sa", "use", 3, "r", "a", 1, None))
        ahead = copy.deepcopy(told(plain))
        plain.letters().clear()
        plain.uses().clear()
        self.check_same(told(plain), ahead)

    def test_the_errors_are_copied(self):
        errors = dict(ERRORS)
        plain = Plain(TREE, errors)
        errors["sc"] = 50
        self.check_refused(plain, BadReading, ["sc", 1], deed(0, "sc", "tick", 1))

    def test_letters_are_carried_often_and_late(self):
        plain = self.lent()
        self.check_same(plain.do(deed(3, "sb", "carry", 3, 0)), False)
        self.check_same(plain.do(deed(60, "sb", "carry", 60, 0)), False)
        self.check_same(plain.do(deed(60, "sc", "carry", 60, 1)), False)
        self.check_same(plain.letters(), [("lend", "r", "b", 1, 2, 40), ("lend", "r", "x", 1, 1, 30)])


class Errors(PlainCase):
    def test_values_that_are_no_events(self):
        plain = self.lent()
        good = deed(3, "sa", "tick", 3)
        values = NOT_NUMBERS + [5, good[:-1], good + (1,), list(good), ("Deed",) + good[1:], ("lose", 0),
                                ("fall", 3, "sa", ()), ("wake", 3, "sa", 3), ("crash", 3, "sa", ("tick", 3), ())]
        values += [("deed", moment, "sa", ("tick", 3)) for moment in NOT_NUMBERS + [-1]]
        values += [("deed", 3, server, ("tick", 3)) for server in NOT_NUMBERS + [5, "A", "abcdefghi"]
                   if not is_name(server)]
        values += [("deed", 3, "sa", value) for value in NOT_NUMBERS + [5, ("tick",), ["tick", 3], ("tick", 3, 3)]]
        values += [deed(3, "sa", *items) for items in (
            ("request", 3, "ann", 1), ("enter", 3, "desk", "ann", 1, None), ("receive", 3, ("lend", "r", "b", 1, 2, 40)),
        )]
        for value in values:
            self.check_refused(plain, InvalidEvent, [value], value)

    def test_unknown_servers(self):
        plain = self.lent()
        for server in ("sd", "a", "zz"):
            self.check_refused(plain, UnknownName, [server], deed(0, server, "tick", 99))
        for server in NOT_NUMBERS + [5, "a", "sd"]:
            self.check_error(UnknownName, [server], plain.purse, server)

    def test_moments_that_fall(self):
        plain = self.lent()
        self.check_refused(plain, BadMoment, [2], deed(2, "sa", "carry", 99, 99))
        plain.do(deed(3, "sa", "tick", 3))

    def test_readings_that_differ_too_much(self):
        plain = self.lent()
        for server, error in ERRORS.items():
            for reading in (5 - error - 1, 5 + error + 1):
                self.check_refused(plain, BadReading, [server, reading], deed(5, server, "carry", reading, 99))
            for reading in (5 - error, 5 + error):
                plain.do(deed(5, server, "tick", reading))

    def test_unknown_letters(self):
        plain = self.lent()
        for index in (-1, 2, 99, -2):
            self.check_refused(plain, NoSuchLetter, [index], deed(3, "sa", "carry", 3, index))

    def test_letters_for_others(self):
        plain = self.lent()
        for server, index in (("sa", 0), ("sa", 1), ("sb", 1), ("sc", 0)):
            letter = plain.letters()[index]
            self.check_refused(plain, WrongLetter, [letter], deed(3, server, "carry", 3, index))

    def test_other_rules(self):
        plain = self.lent()
        for items in (("use", 3, "q", "a", 0, 7), ("lend", 3, "q", "a", "b", 1, 9, None), ("prolong", 3, "q", 1, 50),
                      ("give", 3, "q", "a", 0, None), ("recall", 3, "q", "a", 0)):
            self.check_refused(plain, InvalidDeed, [items], deed(3, "sa", *items))

    def test_what_the_purse_raises(self):
        plain = self.lent()
        self.check_refused(plain, NotHeld, ["a", 9], deed(4, "sa", "use", 4, "r", "a", 9, None))
        self.check_refused(plain, UnknownLot, ["a", 1], deed(4, "sa", "use", 4, "r", "a", 1, 1))
        self.check_refused(plain, UnknownName, ["b"], deed(4, "sa", "recall", 4, "r", "b", 1))
        plain.do(deed(20, "sb", "tick", 22))
        self.check_refused(plain, BadReading, ["sb", 17], deed(20, "sb", "tick", 17))
        plain.do(deed(20, "sb", "tick", 18))


class Never(PlainCase):
    """Runs of plain houses never let by more than the rule allows."""

    def event(self, chance, plain, tree, errors, moment):
        server = chance.choice(tree.servers())
        reading = moment + chance.randint(-errors[server], errors[server])
        purse = plain.purse(server)
        places = [place.name for place in tree.places() if place.server == server]
        place = chance.choice(places)
        lots = [lot[0] for lot in purse.lots(place)]
        lot = chance.choice(lots) if lots else 0
        word = chance.choice(["use", "use", "use", "lend", "lend", "prolong", "give", "recall", "carry", "carry", "carry"])
        rule, until = tree.rule.name, reading + chance.randint(0, 30)
        items = {
            "use": lambda: (place, chance.choice([1, 1, 2]), None),
            "lend": lambda: (place, chance.choice(tree.children(place) or ["zz"]), chance.choice([1, 2, 3]),
                             chance.choice([None, until, until]), None),
            "prolong": lambda: (chance.randint(1, 12), until + 9),
            "give": lambda: (place, lot, some_parts(chance, purse, place, lot)),
            "recall": lambda: (place, lot),
        }
        if word == "carry":
            mine = [at for at, letter in enumerate(plain.letters()) if letter[2] in places or letter[0] == "back"]
            return deed(moment, server, word, reading, chance.choice(mine or [0]))
        return deed(moment, server, word, reading, rule, *items[word]())

    def test_random_runs(self):
        uses = 0
        for seed in range(60):
            chance = random.Random(seed)
            tree = trees()[seed % 5]
            tree = Tree(Rule("r", chance.randint(2, 7), tree.rule.rest), *tree.places())
            errors = {server: chance.choice([0, 1, 3]) for server in tree.servers()}
            plain = Plain(tree, errors)
            moment = 0
            for _ in range(250):
                moment += chance.choice([0, 0, 0, 1, 1, 2])
                try:
                    plain.do(self.event(chance, plain, tree, errors, moment))
                except (SureletError, Missing):
                    pass
            uses += len(plain.uses())
            self.assertTrue(is_within(tree.rule, plain.uses()), seed)
        self.assertGreater(uses, 500)


def some_parts(chance, purse, place, lot):
    """Some of the chips of a lot, as parts."""
    rows = [row for row in purse.lots(place) if row[0] == lot]
    if not rows:
        return ()
    held = [(0, rows[0][3])] * (rows[0][3] > 0) + list(rows[0][4])
    return [(f, chance.randint(1, n)) for f, n in held if chance.random() < 0.7]


if __name__ == "__main__":
    unittest.main()
