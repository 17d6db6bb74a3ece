"""Policies: shares, strangers and stewards, and what they do when they are asked."""

import random
import unittest

from netting import EXAMPLE, WIDE, some_choices, some_demands, some_moments, some_net
from slowprompts import SlowShare, SlowSteward, SlowStranger
from support import NOT_NUMBERS, Case, facts

from surelet.errors import Early, InvalidName, InvalidNumber, InvalidRow, TooMany
from surelet.nets import Net
from surelet.policies import Share, Steward, Stranger
from surelet.prompts import prompt
from surelet.purses import Purse
from surelet.rests import Window
from surelet.rules import Rule
from surelet.timetables import journeys
from surelet.trees import Place, Tree
from surelet.words import is_name


def purse_of(net, place, *deeds, chips=5):
    """A purse of a place, behind some receipts and other operations."""
    purse = Purse(net.tree_of(chips), place, net.error_of(place))
    for call in deeds:
        call(purse)
    return purse


def got(reading, number, n, end, place):
    """A receipt of a loan."""
    return lambda purse: purse.receive(reading, ("lend", "net", place, number, n, end))


class Shares(Case):
    def test_at_its_elder(self):
        share, purse = Share("b", 2, 20, 5), purse_of(EXAMPLE, "a")
        self.check_same(share("a", 3, purse, ()), [("lend", 3, "net", "a", "b", 2, 23, None)])
        for reading in (3, 4, 17):
            self.check_same(share("a", reading, purse, (0,)), [])
        self.check_same(share("a", 18, purse, ()), [("prolong", 18, "net", 1, 43)])
        self.check_same(share("a", 18, purse, ()), [])
        self.check_same(share("a", 37, purse, ()), [])
        self.check_same(share("a", 50, purse, ()), [("prolong", 50, "net", 1, 63)])
        self.check_same(share("a", 51, purse, ()), [])
        # Far behind it goes on step by step.
        self.check_same([share("a", 200, purse, ())[0][4] for _ in range(7)], [83, 103, 123, 143, 163, 183, 203])
        self.check_same(share("a", 200, purse, ()), [("prolong", 200, "net", 1, 223)])

    def test_at_other_places(self):
        share = Share(child="c", n=1, span=9, lead=2)
        for place in ("a", "c", "d", "e"):
            self.check_same(share(place, 3, purse_of(WIDE, place), ()), [])
        self.check_same(share("b", 4, purse_of(WIDE, "b"), ()), [("lend", 4, "net", "b", "c", 1, 13, None)])
        self.check_same(share("a", 99, purse_of(WIDE, "a"), ()), [])
        for child in ("a", "zz"):
            other = Share(child, 1, 9, 2)
            for place in WIDE.names():
                self.check_same(other(place, 3, purse_of(WIDE, place), ()), [])

    def test_the_number_of_the_next_loan(self):
        purse = purse_of(EXAMPLE, "a", lambda one: one.lend(0, "a", "c", 1, until=30), lambda one: one.lend(0, "a", "b", 1, until=9))
        share = Share("b", 1, 10, 1)
        self.check_same(share(place="a", reading=1, purse=purse, come=())[0][0], "lend")
        purse.lend(2, "a", "c", 1, until=30)
        self.check_same(share("a", 10, purse, ()), [("prolong", 10, "net", 3, 21)])

    def test_passed_over(self):
        """It goes on from the end that it asked for, also if the purse refuses."""
        share = Share("b", 9, 10, 3)
        run = prompt(EXAMPLE, [(5, share)], [], moments=[], last=30)
        self.check_same(run.letters(0), [])
        # It was asked at each moment: for the ends 10, 20, 30 and 40 by the readings 0, 7, 17 and 27.
        self.check_same(share("a", 36, purse_of(EXAMPLE, "a"), ()), [])
        self.check_same(share("a", 37, purse_of(EXAMPLE, "a"), ()), [("prolong", 37, "net", 1, 50)])

    def test_the_rule_of_the_purse(self):
        tree = Tree(Rule("p", 3, Window(4)), Place("x", "sx"), Place("y", "sy", "x"))
        self.check_same(Share("y", 1, 5, 1)("x", 2, Purse(tree, "sx", 0), ()), [("lend", 2, "p", "x", "y", 1, 7, None)])

    def test_errors(self):
        for child in NOT_NUMBERS + [5, "A"]:
            if not is_name(child):
                self.check_error(InvalidName, [child], Share, child, 0, None, True)
        for value in NOT_NUMBERS + [0, -1]:
            self.check_error(InvalidNumber, [value], Share, "b", value, 5, 5)
            self.check_error(InvalidNumber, [value], Share, "b", 1, value, 5)
            self.check_error(InvalidNumber, [value], Share, "b", 1, 5, value)
            self.check_error(InvalidNumber, [value], Share, "b", value, -7, -8)
            self.check_error(InvalidNumber, [value], Share, "b", 1, value, -8)
        Share("b", 1, 1, 1)


class Strangers(Case):
    def asked(self, numbers, place, reading, purse, times=1):
        """What a stranger with these numbers does the last of some times."""
        ahead = facts(purse)
        stranger = Stranger(list(numbers))
        for _ in range(times):
            got = stranger(place, reading, purse, ())
        self.check_same(facts(purse), ahead)
        return got

    def test_nothing(self):
        for numbers in ([0], [4], [-4], [], [8, 1]):
            self.check_same(self.asked(numbers, "a", 3, purse_of(WIDE, "a")), [])

    def test_lending(self):
        purse = purse_of(WIDE, "a")
        for numbers, child, n, until in (([1, 0, 0, 0], "b", 1, 4), ([5, 1, 2, 39], "d", 3, 43), ([1, 3, 4, 79], "d", 2, 43),
                                         ([1, -1, -1, -1], "d", 3, 43), ([1], "b", 1, 4), ([1, 1], "d", 1, 4),
                                         ([1, 1, 1], "d", 2, 4)):
            self.check_same(self.asked(numbers, "a", 3, purse), [("lend", 3, "net", "a", child, n, until, None)])
        # A single child is no choice.
        self.check_same(self.asked([1, 1, 5], "b", 0, purse_of(WIDE, "b")), [("lend", 0, "net", "b", "c", 2, 6, None)])
        for place in ("d", "e"):
            self.check_same(self.asked([1, 1, 5], place, 0, purse_of(WIDE, place)), [])

    def test_giving(self):
        purse = purse_of(EXAMPLE, "b", got(0, 7, 3, 50, "b"), got(0, 2, 1, 40, "b"), got(0, 4, 2, 90, "b"),
                         lambda one: one.use(1, "b", 2, lot=4))
        for numbers, lot, n in (([2, 0], 2, 1), ([2, 1, 0], 7, 1), ([2, 1, 2], 7, 3), ([6, 3, 4], 7, 2), ([2, 2, 5], 2, 1),
                                ([2], 2, 1)):
            self.check_same(self.asked(numbers, "b", 3, purse), [("give", 3, "net", "b", lot, ((0, n),))])
        self.check_same(self.asked([2, 1, 2], "a", 3, purse_of(EXAMPLE, "a")), [])
        self.check_same(self.asked([2, 1, 2], "b", 3, purse_of(EXAMPLE, "b")), [])
        spent = purse_of(EXAMPLE, "b", got(0, 7, 1, 50, "b"), lambda one: one.use(1, "b", 1))
        self.check_same(self.asked([2, 1, 2], "b", 3, spent), [])

    def test_prolonging(self):
        purse = purse_of(WIDE, "a", lambda one: one.lend(0, "a", "b", 1, until=30),
                         lambda one: one.lend(0, "a", "d", 1, until=25), lambda one: one.lend(0, "a", "b", 1, until=60))
        for numbers, number, end in (([3, 0, 0], 1, 31), ([3, 1, 19], 2, 45), ([7, 5, 20], 3, 61), ([3], 1, 31), ([3, 2], 3, 61)):
            self.check_same(self.asked(numbers, "a", 3, purse), [("prolong", 3, "net", number, end)])
        self.check_same(self.asked([3, 2, 1], "a", 3, purse_of(WIDE, "a")), [])
        middle = purse_of(WIDE, "b", got(0, 9, 2, 90, "b"), got(0, 3, 2, 70, "b"))
        middle.lend(0, "b", "c", 1, until=50, lot=9)
        middle.lend(0, "b", "c", 1, until=40, lot=3)
        self.check_same(self.asked([3, 1, 2], "b", 3, middle), [("prolong", 3, "net", 2, 43)])
        # A single loan is no choice.
        single = purse_of(WIDE, "a", lambda one: one.lend(0, "a", "b", 1, until=30))
        self.check_same(self.asked([3, 7], "a", 3, single), [("prolong", 3, "net", 1, 38)])

    def test_loans_without_an_end(self):
        """A loan on the same server cannot be prolonged, so it is none of those among which is chosen."""
        tree = Tree(Rule("p", 5, Window(4)), Place("x", "sx"), Place("y", "sx", "x"), Place("z", "sz", "y"))
        purse = Purse(tree, "sx", 0)
        purse.lend(0, "x", "y", 2)
        self.check_same(Stranger([3, 0, 0])("x", 1, purse, ()), [])
        purse.lend(0, "y", "z", 1, until=20)
        self.check_same(Stranger([3, 4])("x", 1, purse, ()), [("prolong", 1, "p", 2, 25)])

    def test_no_further_choice(self):
        """Where there is no deed, the next number is for the next time."""
        for numbers, place in (([1, 1, 9], "d"), ([2, 1, 9], "a"), ([2, 1, 9], "b"), ([3, 1, 9], "a"), ([0, 1, 9], "a")):
            stranger, other = Stranger(numbers), Stranger(numbers[1:])
            self.check_same(stranger(place, 3, purse_of(WIDE, place), ()), [])
            wanted = other("a", 3, purse_of(WIDE, "a"), ())
            self.check_same(wanted, [("lend", 3, "net", "a", "d", 1, 4, None)])
            self.check_same(stranger("a", 3, purse_of(WIDE, "a"), ()), wanted)

    def test_numbers_of_its_own(self):
        numbers = [1, 0, 0, 0, 1, 1, 1, 1]
        stranger = Stranger(numbers=numbers)
        numbers.clear()
        purse = purse_of(WIDE, "a")
        wanted = [[("lend", 3, "net", "a", "b", 1, 4, None)], [("lend", 3, "net", "a", "d", 2, 5, None)], [], []]
        self.check_same([stranger(place="a", reading=3, purse=purse, come=()) for _ in range(4)], wanted)

    def test_from_heap_to_heap_and_run_to_run(self):
        net = Net(("a", None, 0, 0), ("b", "a", 0, 1), rest=Window(10))
        # At each moment it is asked four times: at a for both heaps, then at b for both.
        stranger = Stranger([1, 0, 9, 1, 0, 19, 0, 0, 1, 1, 29, 1, 1, 39])
        run = prompt(net, [(5, stranger), (5, stranger)], [], moments=[], last=0)
        self.check_same(run.letters(0), [(0, ("lend", "net", "b", 1, 1, 10))])
        self.check_same(run.letters(1), [(0, ("lend", "net", "b", 1, 1, 20))])
        run = prompt(net, [(5, stranger), (5, None), (5, stranger)], [], moments=[], last=0)
        self.check_same(run.letters(0), [(0, ("lend", "net", "b", 1, 2, 30))])
        self.check_same([run.letters(1), run.letters(2)], [[], [(0, ("lend", "net", "b", 1, 2, 40))]])


class Stewards(Case):
    def test_the_example(self):
        steward, purse = Steward(EXAMPLE, [("b", 5), ("c", 20)], [0, 1]), purse_of(EXAMPLE, "a", chips=1)
        self.check_same(steward("a", 0, purse, ()), [("lend", 0, "net", "a", "b", 1, 7, None)])
        purse.lend(0, "a", "b", 1, until=7)
        purse.settle(15)
        self.check_same(steward("a", 15, purse, (0,)), [])
        purse.settle(16)
        self.check_same(steward("a", 16, purse, (0,)), [("lend", 16, "net", "a", "c", 1, 22, None)])

    def test_no_ready_chip_no_leg_and_the_place_of_the_leg(self):
        demands = [("b", 5), ("a", 40)]
        steward = Steward(net=EXAMPLE, demands=demands, journey=[0, 1])
        self.check_same(steward("b", 1, purse_of(EXAMPLE, "b"), ()), [])
        self.check_same(steward("c", 1, purse_of(EXAMPLE, "c"), ()), [])
        used = purse_of(EXAMPLE, "a", lambda one: one.use(0, "a", 1), chips=1)
        self.check_same(steward("a", 0, used, ()), [])
        self.check_same(steward("a", 1, purse_of(EXAMPLE, "a"), (0, 1)), [])
        self.check_same(steward("a", 1, purse_of(EXAMPLE, "a"), (0,)), [])
        held = purse_of(EXAMPLE, "b", got(1, 1, 1, 7, "b"))
        self.check_same(steward("b", 1, held, ()), [])
        self.check_same(steward("b", 1, held, (0,)), [("give", 1, "net", "b", 1, ((0, 1),))])
        self.check_same(steward("b", 1, held, (0, 1)), [])

    def test_beneath_and_above(self):
        steward = Steward(WIDE, [("e", 60)], (0,))
        for place, child in (("a", "b"), ("b", "c"), ("c", "e")):
            purse = purse_of(WIDE, place) if place == "a" else purse_of(WIDE, place, got(1, 1, 1, 61, place))
            self.check_same(steward(place, 1, purse, ()), [("lend", 1, "net", place, child, 1, 61, None)])
        beside = purse_of(WIDE, "d", got(1, 4, 2, 61, "d"))
        self.check_same(steward("d", 1, beside, ()), [("give", 1, "net", "d", 4, ((0, 1),))])
        up = Steward(WIDE, [("d", 60)], [0])
        for place in ("b", "c", "e"):
            purse = purse_of(WIDE, place, got(1, 4, 2, 61, place))
            self.check_same(up(place, 1, purse, ()), [("give", 1, "net", place, 4, ((0, 1),))])

    def test_the_lot_that_gives(self):
        steward = Steward(EXAMPLE, [("a", 60)], [0])
        purse = purse_of(EXAMPLE, "b", got(0, 3, 1, 50, "b"), got(0, 6, 1, 70, "b"), got(0, 5, 2, 70, "b"), got(0, 2, 1, 90, "b"),
                         lambda one: one.use(1, "b", 1, lot=2))
        self.check_same(steward("b", 2, purse, ()), [("give", 2, "net", "b", 5, ((0, 1),))])
        # A lot gives also when it no longer lives.
        purse.settle(70)
        self.check_same([lot[0] for lot in purse.lots("b")], [2, 5, 6])
        self.check_same(Steward(EXAMPLE, [("a", 90)], [0])("b", 70, purse, ()), [("give", 70, "net", "b", 2, ((0, 1),))])

    def test_the_end_goes_by_the_places_of_kappa(self):
        # From e to c and to e again the chip turns at e and c; only to d it goes by a place above b.
        demands = [("e", 30), ("c", 60), ("e", 90), ("d", 130), ("a", 170), ("e", 200)]
        steward = Steward(WIDE, demands, [0, 1, 2, 3, 4, 5])
        self.check_same([WIDE.kappa_place(demands[k][0], demands[k + 1][0]) for k in range(5)], ["c", "c", "a", "a", "a"])
        self.check_same(steward("a", 1, purse_of(WIDE, "a"), ()), [("lend", 1, "net", "a", "b", 1, 91, None)])
        for place, child, end in (("b", "c", 91), ("c", "e", 31)):
            purse = purse_of(WIDE, place, got(1, 1, 1, 300, place))
            self.check_same(steward(place, 1, purse, ()), [("lend", 1, "net", place, child, 1, end, None)])
        purse = purse_of(WIDE, "a")
        self.check_same(steward("a", 1, purse, (0, 1, 2)), [("lend", 1, "net", "a", "d", 1, 133, None)])
        self.check_same(steward("a", 1, purse, (0, 1, 2, 3, 4)), [("lend", 1, "net", "a", "b", 1, 201, None)])
        held = purse_of(WIDE, "c", got(1, 1, 1, 300, "c"))
        self.check_same(steward("c", 1, held, (0, 1)), [("lend", 1, "net", "c", "e", 1, 91, None)])

    def test_the_greatest_low_of_all_purses(self):
        demands = [("b", 5), ("b", 30), ("c", 60)]
        steward = Steward(EXAMPLE, demands, [0, 1, 2])
        purse = purse_of(EXAMPLE, "a")
        purse.settle(6)
        self.check_same(steward("a", 6, purse, ())[0][6], 32)
        late = purse_of(EXAMPLE, "c", lambda one: one.settle(8))
        self.check_same(steward("c", 8, late, ()), [])
        # The low 7 of c counts at a, too: the demand at 5 comes at 6 at the latest.
        self.check_same(steward("a", 6, purse, ()), [("lend", 6, "net", "a", "b", 1, 32, None)])
        for low, end in ((31, 32), (32, 62)):
            purse = purse_of(EXAMPLE, "a", lambda one, low=low: one.settle(low))
            self.check_same(Steward(EXAMPLE, demands, [0, 1, 2])("a", low, purse, ())[0][6], end)
        gone = purse_of(EXAMPLE, "c", lambda one: one.settle(63))
        self.check_same(steward("c", 63, gone, ()), [])
        self.check_same(steward("a", 6, purse_of(EXAMPLE, "a"), ()), [])

    def test_a_demand_at_the_moment_0(self):
        steward = Steward(EXAMPLE, [("a", 0), ("b", 30)], [0, 1])
        self.check_same(steward("a", 0, purse_of(EXAMPLE, "a", lambda one: one.settle(0)), ()), [])
        purse = purse_of(EXAMPLE, "a", lambda one: one.settle(1))
        self.check_same(steward("a", 1, purse, ()), [("lend", 1, "net", "a", "b", 1, 32, None)])

    def test_a_reading_to_and_fro(self):
        """The low of a purse is the remembered one, not that of the reading."""
        steward = Steward(EXAMPLE, [("c", 8), ("a", 60)], [0, 1])
        purse = purse_of(EXAMPLE, "c", lambda one: one.settle(11), lambda one: one.settle(9))
        purse.receive(9, ("lend", "net", "c", 1, 1, 50))
        self.check_same(purse.past, 10)
        self.check_same(steward("c", 9, purse, ()), [("give", 9, "net", "c", 1, ((0, 1),))])

    def test_its_lists_may_be_changed_behind_the_making(self):
        demands, journey = [("b", 5), ("c", 20)], [0, 1]
        steward = Steward(EXAMPLE, demands, journey)
        demands.clear()
        journey.clear()
        self.check_same(steward(place="a", reading=0, purse=purse_of(EXAMPLE, "a"), come=()),
                        [("lend", 0, "net", "a", "b", 1, 7, None)])

    def test_errors(self):
        good = [("b", 5), ("c", 20), ("c", 21), ("a", 60)]
        for value in NOT_NUMBERS + [5]:
            if not isinstance(value, (list, tuple)):
                self.check_error(InvalidRow, [-1], Steward, EXAMPLE, value, None)
            if value != ("a", 1):
                self.check_error(InvalidRow, [1], Steward, EXAMPLE, [good[0], value] + [("b", 0)] * 90, None)
            if value not in ([1, 2], (1,)):
                self.check_error(InvalidRow, [-1], Steward, EXAMPLE, good, value)
        self.check_error(TooMany, ["booked", 61], Steward, EXAMPLE, [("b", 0)] * 61, None)
        self.check_error(Early, [1], Steward, EXAMPLE, [good[0], ("b", 4), ("b", 0)], None)
        for journey in ([], (), [1, 2], [1, 0], [0, 0], [0, 4], [-1], [0, -1], [True], [0, 1, 2], [0, None], [[0]], {0: 1}):
            self.check_error(InvalidRow, [-1], Steward, EXAMPLE, good, journey)
        for journey in ([0], (0, 1), [0, 1, 3], [2, 3], [0, 3]):
            Steward(EXAMPLE, tuple(good), journey)


class Twins(Case):
    """Policies beside those that are told step by step, in random runs."""

    def test_runs(self):
        words = {}
        for seed in range(40):
            chance = random.Random(seed)
            net = some_net(chance)
            demands = some_demands(chance, net, chance.randint(0, 10), 70)
            heaps, mine = [], {}
            for journey in journeys(net, demands):
                heaps.append((1, Pair(self, words, Steward(net, demands, journey), SlowSteward(net, demands, journey))))
                mine.update({index: len(heaps) - 1 for index in journey})
            numbers = [chance.randint(-50, 5000) for _ in range(chance.choice([0, 50, 2000]))]
            heaps.append((4, Pair(self, words, Stranger(numbers), SlowStranger(numbers))))
            told = (chance.choice(net.names()), chance.randint(1, 4), chance.randint(1, 20), chance.randint(1, 12))
            heaps.append((3, Pair(self, words, Share(*told), SlowShare(*told))))
            rows = [(place, reading, mine[at]) for at, (place, reading) in enumerate(demands)]
            for _ in range(2):
                moments = some_moments(chance, net, demands, 0.2)
                prompt(net, heaps, rows, moments=moments, choices=some_choices(chance), last=80)
        for word in ("lend", "prolong", "give", None):
            self.assertGreater(words.get(word, 0), 100, words)


class Pair:
    """Two policies that have to do the same."""

    def __init__(self, case, words, one, other):
        self.case, self.words, self.one, self.other = case, words, one, other

    def __call__(self, place, reading, purse, come):
        got = self.one(place, reading, purse, come)
        self.case.check_same(got, self.other(place, reading, purse.copy(), come))
        word = got[0][0] if got else None
        self.words[word] = self.words.get(word, 0) + 1
        return got


if __name__ == "__main__":
    unittest.main()
