"""Witnesses: what one is, the errors of asking for one, and the words by which they are judged."""

import random
import unittest

from running import CLOCKS, Runner, lone_house
from support import NOT_NUMBERS, OTHERS, Case, facts

from surelet.errors import InvalidNumber, NotLacking, NotSettled, UnknownName
from surelet.houses import House
from surelet.plain import Plain
from surelet.purses import Purse
from surelet.rests import Days, Window
from surelet.rules import Rule
from surelet.servers import Server
from surelet.trees import Place, Tree
from surelet.witnesses import Witness, judge_witness, witness
from surelet.worlds import World

FIELDS = ("rule", "server", "reading", "customer", "asked", "moment", "events", "extras", "start")
TREE = Tree(Rule("r", 2, Window(10)), Place("a", "sa"), Place("b", "sb", "a"))
# The first example of [20]: A has lent one chip, of which it hears nothing.
HOUSE = House(TREE, servers=[("sa", 1), ("sb", 2)], customers=[("ann", None, 1, ["r"])])
WIDE = Tree(
    Rule("r", 9, Window(10)), Place("a", "sa"), Place("b", "sb", "a"), Place("d", "sb", "b", customer="ann"),
    Place("e", "sb", "d"), Place("m", "sb", "b", memory=True), Place("c", "sc", "e"), Place("f", "sd", "c"),
)
OTHER = Tree(Rule("q", 2, Days([], 5)), Place("x", "sa"))
WIDE_HOUSE = House(
    OTHER, WIDE, servers=[("sa", 1), ("sb", 2), ("sc", 0), ("sd", 3), ("se", 0)],
    customers=[("firm", None, 1, ["r"]), ("ann", "firm", 1, []), ("bob", None, 1, ["q"])],
)


def deed(moment, server, *items):
    """An event deed."""
    return ("deed", moment, server, items)


def example():
    """The purse of A at the reading 29 of the example."""
    purse = Purse(TREE, "sa", 1)
    purse.lend(0, "a", "b", 1, until=20)
    purse.settle(29)
    return purse


def made(told, **changes):
    """The same witness with other fields."""
    fields = {name: getattr(told, name) for name in FIELDS if name not in ("events", "extras")}
    return Witness(**{**fields, "events": told.events(), "extras": told.extras(), **changes})


def parts_of(told):
    """All fields of a witness."""
    return [told.rule, told.server, told.reading, told.customer, told.asked, told.moment, told.events(), told.extras(),
            told.start]


def busy():
    """A plain house of the wide tree, in which much of sb lies about: a drawer, memory, a loan that came home."""
    plain = Plain(WIDE, {"sa": 1, "sb": 2, "sc": 0, "sd": 3})
    for event in (
        deed(0, "sa", "lend", 0, "r", "a", "b", 7, 60, None), deed(0, "sb", "carry", 0, 0),
        deed(0, "sb", "lend", 0, "r", "b", "d", 4, None, None), deed(0, "sb", "lend", 0, "r", "b", "m", 1, 40, None),
        deed(1, "sb", "lend", 1, "r", "d", "e", 2, 50, None), deed(1, "sb", "lend", 1, "r", "e", "c", 1, 30, None),
        deed(1, "sc", "carry", 1, 1), deed(2, "sb", "recall", 2, "r", "e", 3),
        deed(2, "sb", "use", 3, "r", "d", 1, None), deed(5, "sb", "use", 4, "r", "b", 1, None),
        deed(6, "sc", "use", 6, "r", "c", 1, None), deed(7, "sb", "tick", 8),
    ):
        plain.do(event)
    return plain


class Fields(Case):
    def test_the_fields(self):
        told = Witness("r", "sa", 29, "ann", 2, 28, [deed(0, "sa", "tick", 0)], (), 19)
        self.check_same([told.rule, told.server, told.reading, told.customer, told.asked, told.moment, told.start],
                        ["r", "sa", 29, "ann", 2, 28, 19])
        self.check_same([told.events(), told.extras()], [[deed(0, "sa", "tick", 0)], []])
        named = Witness(start=19, extras=(), events=[deed(0, "sa", "tick", 0)], moment=28, asked=2, customer="ann",
                        reading=29, server="sa", rule="r")
        self.assertTrue(told == named)

    def test_any_values(self):
        for value in NOT_NUMBERS + [5]:
            told = Witness(*[value] * 9)
            for name in FIELDS:
                if name not in ("events", "extras"):
                    self.check_same(getattr(told, name), value)
            listed = list(value) if isinstance(value, tuple) else value
            self.check_same([told.events(), told.extras()], [listed, listed])

    def test_lists_are_copied_at_whatever_depth(self):
        def deep():
            return [1, ([2, ([3], {"a": [4, ([5],)]})],), {"b": {"c": [6]}}]

        def spoil(value):
            for item in list(value.values()) if isinstance(value, dict) else value:
                if isinstance(item, (list, tuple, dict)):
                    spoil(item)
            if isinstance(value, (list, dict)):
                value.clear()

        values = [deep() for _ in FIELDS]
        told = Witness(*values)
        for value in values:
            spoil(value)
        for name in FIELDS:
            got = getattr(told, name)
            self.check_same(got() if name in ("events", "extras") else got, deep())
        for call in (told.events, told.extras):
            spoil(call())
            self.check_same(call(), deep())
        told = Witness(*[tuple(deep()) for _ in FIELDS])
        self.check_same([told.rule, told.events(), told.extras()], [tuple(deep()), deep(), deep()])
        told = Witness(*[{"a": deep()} for _ in FIELDS])
        spoil(told.events())
        self.check_same(told.events(), {"a": deep()})

    def test_equal_ones(self):
        values = ["r", "sa", 29, "ann", 2, 28, [deed(0, "sa", "tick", 0)], [], 19]
        told = Witness(*values)
        self.assertTrue(told == Witness(*values))
        self.assertFalse(told != Witness(*values))
        self.assertTrue(told == Witness(*values[:6], tuple(values[6]), (), 19))
        for at in range(9):
            for value in OTHERS + [5]:
                other = Witness(*values[:at], value, *values[at + 1:])
                same = value == values[at] or at == 7 and value in ([], ())
                self.assertEqual((told == other, other == told), (same, same), (at, value))
        for value in NOT_NUMBERS + [5, values, tuple(values)]:
            self.assertFalse(told == value)

    def test_it_never_changes(self):
        events = [deed(0, "sa", "lend", 0, "r", "a", "b", 1, 20, None)]
        told = Witness("r", "sa", 29, None, 2, 28, events, [], 19)
        events.append(1)
        told.events().append(2)
        told.extras().append(3)
        self.check_same([told.events(), told.extras()], [events[:1], []])


class Asking(Case):
    def test_the_example(self):
        purse = example()
        self.check_same(purse.payable(), 1)
        told = witness(HOUSE, purse, "ann", 2)
        self.check_same([told.rule, told.server, told.reading, told.customer, told.asked], ["r", "sa", 29, "ann", 2])
        self.check_same([told.moment, told.start], [28, 19])
        self.check_same(told.events(), [
            deed(0, "sa", "lend", -1, "r", "a", "b", 1, 20, 0), deed(0, "sb", "carry", -2, 0),
            deed(19, "sb", "use", 17, "r", "b", 1, 1),
        ])
        self.check_same(told.extras(), [])
        self.assertIsNone(judge_witness(HOUSE, told, purse))
        self.assertIsNone(judge_witness(house=HOUSE, witness=told, purse=purse))
        self.assertTrue(witness(house=HOUSE, purse=purse, customer="ann", asked=2) == told)

    def test_errors_in_their_order(self):
        new, settled = Purse(TREE, "sa", 1), example()
        for customer in NOT_NUMBERS + [5, "zz", "sa"]:
            if customer is not None:
                for asked in (None, 0, 1, 2):
                    for purse in (new, settled):
                        self.check_error(UnknownName, [customer], witness, HOUSE, purse, customer, asked)
        for asked in NOT_NUMBERS + [0, -1]:
            for customer in ("ann", None):
                for purse in (new, settled):
                    self.check_error(InvalidNumber, [asked], witness, HOUSE, purse, customer, asked)
        for asked in (1, 2, 3):
            self.check_error(NotSettled, [], witness, HOUSE, new, "ann", asked)
        self.check_error(NotLacking, [1], witness, HOUSE, settled, "ann", 1)
        self.check_error(NotLacking, [1], witness, HOUSE, settled, None, 1)

    def test_the_payable_chips_of_each_customer(self):
        purse = busy().purse("sb")
        # In the drawer are 2 ready ones for ann alone, beside the 2 ready ones for everybody.
        for customer, ready in (("ann", 4), ("firm", 2), ("bob", 2), (None, 2)):
            self.check_same(purse.payable(WIDE_HOUSE.path(customer) if customer else []), ready)
            self.check_error(NotLacking, [ready], witness, WIDE_HOUSE, purse, customer, ready)
            for asked in (ready + 1, ready + 2, 9, 10, 999999999):
                told = witness(WIDE_HOUSE, purse, customer, asked)
                self.assertIsNone(judge_witness(WIDE_HOUSE, told, purse))
                self.check_same([told.customer, told.asked], [customer, asked])

    def test_the_purse_and_the_house_stay(self):
        plain = busy()
        ahead = facts(plain.purse("sb"))
        told = witness(WIDE_HOUSE, plain.purse("sb"), "bob", 5)
        judge_witness(WIDE_HOUSE, told, plain.purse("sb"))
        self.check_same(facts(plain.purse("sb")), ahead)
        self.assertTrue(witness(WIDE_HOUSE, plain.purse("sb"), "bob", 5) == told)

    def test_each_server_of_a_tree(self):
        plain = busy()
        plain.do(deed(8, "sa", "tick", 8))
        plain.do(deed(8, "sd", "tick", 8))
        for server in WIDE.servers():
            purse = plain.purse(server)
            told = witness(WIDE_HOUSE, purse, None, 9)
            self.assertIsNone(judge_witness(WIDE_HOUSE, told, purse))
            # The events can be done one by one, in a plain house and in a world.
            other, world = Plain(WIDE, {"sa": 1, "sb": 2, "sc": 0, "sd": 3}), World(WIDE_HOUSE)
            for event in told.events():
                other.do(event)
                world.do(event)
            self.check_same(world.letters(), other.letters())

    def test_a_loan_that_came_home(self):
        purse = busy().purse("sb")
        loans = [loan for lot in purse.lots("d") for loan in lot[5]]
        self.check_same([(loan[1], loan[2], loan[3]) for loan in loans], [("c", 1, 30)])
        told = witness(WIDE_HOUSE, purse, None, 9)
        self.check_same([event[3][0] for event in told.events()].count("recall"), 1)

    def test_after_a_fall(self):
        server = Server(WIDE_HOUSE, "sb")
        server.receive(0, ("lend", "r", "b", 1, 7, 60))
        server.lend(1, "r", "b", "m", 3, until=30)
        server.lend(1, "r", "b", "d", 2)
        server.use(2, "r", "m", 1)
        server.use(2, "r", "b", 1)
        server.fall(["kept"] * 9)
        server.wake(6)
        purse = server.purse("r")
        self.check_same(purse.lots("b")[0][4], ((14, 1), (18, 3)))
        for customer in ("ann", "bob", None):
            told = witness(WIDE_HOUSE, purse, customer, 9)
            self.assertIsNone(judge_witness(WIDE_HOUSE, told, purse))

    def test_doubled_late_and_lost_letters(self):
        world = World(WIDE_HOUSE)
        for event in (
            deed(0, "sa", "lend", 0, "r", "a", "b", 4, 20, None), deed(0, "sa", "lend", 0, "r", "a", "b", 3, 40, None),
            deed(1, "sb", "carry", 1, 1), deed(1, "sb", "carry", 3, 1), ("lose", 0), deed(2, "sb", "use", 2, "r", "b", 1, 2),
            deed(3, "sb", "give", 4, "r", "b", 2, ((0, 1), (14, 1))), deed(3, "sb", "give", 4, "r", "b", 2, ((0, 1),)),
            deed(5, "sa", "carry", 5, 3), deed(6, "sa", "carry", 5, 3),
        ):
            world.do(event)
        for server in ("sa", "sb"):
            purse = world.server_of(server).purse("r")
            told = witness(WIDE_HOUSE, purse, "ann", 9)
            self.assertIsNone(judge_witness(WIDE_HOUSE, told, purse))


class Judging(Case):
    def word(self, house, told, purse, word):
        """The word for a witness, or for any value; the purse stays."""
        ahead = facts(purse)
        copy = parts_of(told) if isinstance(told, Witness) else None
        self.assertEqual(judge_witness(house, told, purse), word)
        self.check_same(facts(purse), ahead)
        if copy is not None:
            self.check_same(parts_of(told), copy)

    def setUp(self):
        self.purse = example()
        self.right = witness(HOUSE, self.purse, "ann", 2)

    def wrong(self, word, **changes):
        self.word(HOUSE, made(self.right, **changes), self.purse, word)

    def test_values_that_are_no_witnesses(self):
        for value in NOT_NUMBERS + [5, self.right.events(), tuple(parts_of(self.right))]:
            self.word(HOUSE, value, self.purse, "form")

    def test_lists_and_tuples(self):
        self.wrong(None, events=tuple(self.right.events()), extras=())
        self.wrong(None, events=self.right.events(), extras=[])

    def test_fields_of_other_kinds(self):
        for value in NOT_NUMBERS:
            for name in ("reading", "asked", "moment", "start"):
                self.wrong("form", **{name: value})
        for value in NOT_NUMBERS + [5, "zz"]:
            if value != "r":
                self.wrong("form", rule=value)
            if value not in ("sa", "sb"):
                self.wrong("form", server=value)
            if value not in (None, "ann"):
                self.wrong("form", customer=value)
            if value not in ([], ()):
                self.wrong("form", events=value)
                self.wrong("form", extras=value)
        for value in (0, -1):
            self.wrong("form", asked=value)
        for name in ("moment", "start"):
            self.wrong("form", **{name: -1})

    def test_a_server_without_a_place_of_the_rule(self):
        purse = busy().purse("sb")
        told = witness(WIDE_HOUSE, purse, "bob", 9)
        self.word(WIDE_HOUSE, made(told, server="se"), purse, "form")
        self.word(WIDE_HOUSE, made(told, rule="q"), purse, "form")
        self.word(WIDE_HOUSE, made(told, rule="q", server="sa", moment=8, events=[], extras=[]), purse, "alike")

    def test_events_of_other_forms(self):
        events = self.right.events()
        values = [None, 5, (), ("lose", 0), ("fall", 0, "sa", ()), ("wake", 0, "sa", 0), list(events[0]),
                  ("crash", 0, "sa", ("tick", 0), ()), ("deed", -1, "sa", ("tick", 0)), ("deed", 0, "A", ("tick", 0)),
                  ("deed", True, "sa", ("tick", 0)), ("deed", 0, None, ("tick", 0)), ("deed", 0, "sa", ["tick", 0]),
                  deed(0, "sa", "request", 0, "ann", 1), deed(0, "sa", "enter", 0, "r", "ann", 1, None),
                  deed(0, "sa", "receive", 0, ("lend", "r", "b", 1, 1, 20)), deed(0, "sa", "tick", None),
                  deed(0, "sa", "use", 0, "q", "a", 1, None), deed(0, "sa", "lend", 0, "q", "a", "b", 1, 20, None),
                  deed(0, "sa", "prolong", 0, "q", 1, 30), deed(0, "sa", "give", 0, "q", "a", 0, ()),
                  deed(0, "sa", "recall", 0, "q", "a", 0), deed(0, "sa", "use", 0, "r", "a", True, None)]
        for value in values:
            for at in (0, 1, 3):
                self.wrong("form", events=events[:at] + [value] + events[at:])
            self.wrong("form", extras=[value])
            self.wrong("form", extras=(deed(28, "sa", "use", 28, "r", "a", 1, None), value))
        for value in (deed(28, "sa", "tick", 28), deed(28, "sa", "lend", 28, "r", "a", "b", 1, 40, None),
                      deed(28, "sa", "prolong", 28, "r", 1, 40), deed(28, "sb", "give", 28, "r", "b", 1, ((0, 1),)),
                      deed(28, "sa", "recall", 28, "r", "a", 0), deed(28, "sb", "carry", 28, 0)):
            self.wrong("form", extras=[value])

    def test_events_of_each_word(self):
        """What changes nothing that counts may stand among the events."""
        events = self.right.events()
        for at, event in ((0, deed(0, "sa", "tick", -1)), (2, deed(0, "sb", "carry", 2, 0)), (3, deed(28, "sb", "tick", 30)),
                          (3, deed(19, "sb", "tick", 17)), (1, deed(0, "sb", "tick", 0))):
            self.wrong(None, events=events[:at] + [event] + events[at:])
        self.wrong(None, events=events + [deed(19, "sb", "tick", 17)])
        more = [deed(1, "sa", "prolong", 0, "r", 1, 21), deed(1, "sb", "give", 1, "r", "b", 1, [(0, 1)])]
        self.wrong("event", events=events[:2] + more + events[2:])

    def test_refused_events(self):
        events = self.right.events()
        lend, carry, use = events
        for value in (
            [carry, lend, use], [lend, use], [use], [lend, carry, use, use], [lend, carry, use, carry, lend],
            [lend, deed(0, "sb", "carry", -2, 1), use], [lend, deed(0, "sb", "carry", -2, -1), use],
            [lend, deed(0, "sa", "carry", -1, 0), use], [lend, deed(0, "sb", "carry", -3, 0), use],
            [lend, deed(0, "sb", "carry", 3, 0), use], [lend, carry, deed(19, "sb", "use", 17, "r", "b", 2, 1)],
            [lend, carry, deed(19, "sb", "use", 17, "r", "b", 1, 2)], [lend, carry, deed(19, "sb", "use", 18, "r", "b", 1, 1)],
            [lend, carry, use, deed(18, "sb", "tick", 18)], events + [deed(28, "zz", "tick", 28)],
            events + [deed(28, "sc", "tick", 28)], events + [deed(28, "sa", "give", 28, "r", "a", 0, None)],
        ):
            self.wrong("event", events=value)

    def test_events_behind_the_moment(self):
        self.wrong("event", events=self.right.events() + [deed(29, "sb", "tick", 29)])
        self.wrong(None, events=self.right.events() + [deed(28, "sb", "tick", 29)])
        for moment in (0, 18):
            self.wrong("event", moment=moment)

    def test_readings(self):
        for moment in (27, 31, 999999):
            self.wrong("reading", moment=moment)
        for reading in (26, 30, -99, 10 ** 9):
            self.wrong("reading", reading=reading)
        self.wrong("over", moment=30)
        self.wrong("alike", reading=27)
        self.wrong("alike", reading=28)

    def test_readings_below_past(self):
        """A reading that fits the moment is never below past, since no event stands behind the moment."""
        tree = Tree(Rule("r", 2, Window(10)), Place("a", "sa"))
        house = House(tree, servers=[("sa", 3)])
        purse = Purse(tree, "sa", 3)
        purse.settle(20)
        fast = [deed(20, "sa", "tick", 23)]
        for events, reading, moment, word in (
            (fast, 17, 20, "alike"), (fast, 16, 20, "reading"), (fast, 20, 20, None), ([], 20, 17, None),
            ([], 20, 23, None), ([], 20, 16, "reading"), ([], 20, 24, "reading"),
        ):
            told = Witness("r", "sa", reading, None, 3, moment, events, [], moment)
            self.word(house, told, purse, word)

    def test_what_does_not_stand_alike(self):
        events = self.right.events()
        lend, carry, use = events
        for value in (
            [], [deed(0, "sa", "lend", -1, "r", "a", "b", 1, 21, 0), carry, use],
            [deed(0, "sa", "lend", -1, "r", "a", "b", 1, 19, 0), carry],
            [deed(0, "sa", "lend", -1, "r", "a", "b", 2, 20, 0), carry, use],
            events + [deed(20, "sa", "use", 20, "r", "a", 1, None)],
        ):
            self.wrong("alike", events=value)
        self.wrong("alike", server="sb", reading=28)
        new = Purse(TREE, "sa", 1)
        self.word(HOUSE, self.right, new, "alike")
        later = example()
        later.settle(30)
        self.word(HOUSE, self.right, later, "alike")
        used = example()
        used.use(29, "a", 1)
        self.word(HOUSE, self.right, used, "alike")

    def test_extra_events(self):
        purse = busy().purse("sb")
        told = witness(WIDE_HOUSE, purse, "bob", 9)
        extras = told.extras()
        self.check_same([event[3][3:5] for event in extras], [("d", 2)])
        self.word(WIDE_HOUSE, told, purse, None)
        first = extras[0]
        word, reading, rule, place, n, lot = first[3]
        for other in (
            [first, first], [("deed", told.moment + 1, "sb", first[3])], [("deed", told.moment - 1, "sb", first[3])],
            [("deed", told.moment, "sa", first[3])], [("deed", told.moment, "zz", first[3])],
            [("deed", told.moment, "se", first[3])], [deed(told.moment, "sb", word, reading, rule, place, n + 1, lot)],
            [deed(told.moment, "sb", word, reading, rule, place, n, lot + 1)],
            [deed(told.moment, "sb", word, reading - 1, rule, place, n, lot)],
            [deed(told.moment, "sb", word, reading + 9, rule, place, n, lot)],
            # The payable chips are gone.
            [first, deed(told.moment, "sb", word, reading, rule, "b", 1, None)],
        ):
            self.word(WIDE_HOUSE, made(told, extras=other), purse, "extra")
        self.word(WIDE_HOUSE, made(told, extras=tuple(extras)), purse, None)
        self.word(WIDE_HOUSE, made(told, extras=[], asked=9), purse, None)
        three = witness(WIDE_HOUSE, purse, "bob", 3)
        self.word(WIDE_HOUSE, made(three, extras=[]), purse, "over")

    def test_only_the_asked_number_is_paid(self):
        """With fewer asked than payable, the others can still be used by extra events."""
        purse = example()
        plain = Plain(TREE, {"sa": 1, "sb": 2})
        plain.do(deed(3, "sa", "tick", 3))
        settled = plain.purse("sa")
        told = Witness("r", "sa", 3, "ann", 1, 3, [], [deed(3, "sa", "use", 3, "r", "a", 1, None)], 3)
        self.word(HOUSE, told, settled, "over")
        self.word(HOUSE, made(told, extras=told.extras() * 2), settled, "extra")
        # A purse would let these, but their moment is not that of the witness.
        for moment, reading in ((2, 3), (4, 4), (4, 3)):
            self.word(HOUSE, made(told, extras=[deed(moment, "sa", "use", reading, "r", "a", 1, None)]), settled, "extra")
        self.word(HOUSE, made(told, extras=[deed(3, "sa", "use", 4, "r", "a", 1, None)]), settled, "over")
        self.word(HOUSE, made(told, asked=2), settled, "extra")
        self.word(HOUSE, made(told, asked=2, extras=[]), settled, "over")
        self.word(HOUSE, made(told, asked=3, extras=[]), settled, None)
        self.word(HOUSE, made(told, asked=3), purse, "alike")

    def test_what_is_not_over(self):
        self.wrong("over", asked=1)
        for start in (18, 19):
            self.wrong(None if start == 19 else "over", start=start)
        for start in (20, 28, 29, 0, 9, 10 ** 9):
            self.wrong("over", start=start)
        self.wrong(None, asked=3)
        self.wrong(None, asked=3, start=28)
        self.wrong("over", asked=3, start=29)
        self.wrong(None, asked=10 ** 9)

    def test_two_at_once(self):
        """Each word ahead of those that stand behind it."""
        events = self.right.events()
        bad = {"event": {"events": events + [deed(29, "sb", "tick", 29)]}, "reading": {"reading": 31},
               "alike": {"events": events + [deed(20, "sa", "use", 20, "r", "a", 1, None)]},
               "extra": {"extras": [deed(28, "sa", "use", 28, "r", "a", 9, None)]}, "over": {"start": 0}}
        words = ["event", "reading", "alike", "extra", "over"]
        for at, word in enumerate(words):
            self.wrong(word, **bad[word])
            for other in words[at + 1:]:
                if not set(bad[word]) & set(bad[other]):
                    self.wrong(word, **bad[word], **bad[other])
            self.wrong("form", **{**bad[word], "asked": 0})
            self.wrong("form", **{**bad[word], "customer": "zz"})
        self.wrong("event", events=bad["alike"]["events"] + [deed(28, "sa", "tick", 60)])

    def test_one_change_at_a_time(self):
        """In random runs: an event that is struck, doubled, put in or changed is judged as this test plays it."""
        seen = {}
        for seed in range(24):
            chance = random.Random(seed)
            house = lone_house(chance)
            runner = Runner(house, seed, CLOCKS[seed % 4], 0.02)
            for _ in range(100):
                runner.step()
            for name in house.servers():
                server = runner.world.server_of(name)
                if server.fallen or server.purse("p").last_reading is None:
                    continue
                purse = server.purse("p")
                customer = chance.choice([None] + house.customers())
                ready = purse.payable(house.path(customer) if customer else [])
                told = witness(house, purse, customer, ready + chance.choice([1, 2, 9]))
                self.word(house, told, purse, None)
                for _ in range(12):
                    other = changed(chance, told, house)
                    got = judge_witness(house, other, purse)
                    self.assertEqual(got, slow_word(house, other, purse), parts_of(other))
                    seen[got] = seen.get(got, 0) + 1
        for word in (None, "event", "reading", "alike", "extra", "over"):
            self.assertGreater(seen.get(word, 0), 3, (word, seen))


def changed(chance, told, house):
    """A witness with one change."""
    what = chance.choice(["events", "events", "events", "extras", "number", "number", "server", "customer"])
    if what == "number":
        name = chance.choice(["reading", "asked", "moment", "start"])
        return made(told, **{name: max(1, getattr(told, name) + chance.choice([-1, 1]))})
    if what == "server":
        return made(told, server=chance.choice(house.servers()))
    if what == "customer":
        return made(told, customer=chance.choice([None] + house.customers()))
    rows = getattr(told, what)()
    if not rows:
        return made(told, extras=[deed(told.moment, told.server, "use", told.moment, "p", "a", 1, None)])
    at, how = chance.randrange(len(rows)), chance.choice(["strike", "double", "swap", "number", "number"])
    if how == "strike":
        rows.pop(at)
    elif how == "double":
        rows.insert(at, rows[at])
    elif how == "swap":
        other = chance.randrange(len(rows))
        rows[at], rows[other] = rows[other], rows[at]
    else:
        items = list(rows[at][3])
        places = [k for k, item in enumerate(items) if type(item) is int]
        items[chance.choice(places)] += chance.choice([-1, 1])
        rows[at] = rows[at][:3] + (tuple(items),)
    return made(told, **{what: rows})


def slow_word(house, told, purse):
    """The word for a witness with fields of the right kinds, in a world without falls."""
    tree, world = house.tree_of(told.rule), World(house)
    uses = []
    for event in told.events():
        try:
            assert event[1] <= told.moment
            world.do(event)
        except Exception:
            return "event"
        uses += [(event[1], event[3][4])] if event[3][0] == "use" else []
    try:
        world.do(("deed", told.moment, told.server, ("tick", told.reading)))
    except Exception:
        return "reading"
    own = world.server_of(told.server).purse(told.rule)
    if own.standing() != purse.standing():
        return "alike"
    path = house.path(told.customer) if told.customer else []
    ready = min(own.payable(path), told.asked)
    for place, lot, n in own.pay(told.reading, path, ready) if ready else []:
        world.do(("deed", told.moment, told.server, ("use", told.reading, told.rule, place, n, lot)))
    for event in told.extras():
        try:
            assert event[1] == told.moment
            world.do(event)
        except Exception:
            return "extra"
        uses.append((event[1], event[3][4]))
    uses.append((told.moment, told.asked))
    end = tree.rule.rest(told.start)
    return None if sum(n for moment, n in uses if told.start <= moment < end) > tree.rule.chips else "over"


if __name__ == "__main__":
    unittest.main()
