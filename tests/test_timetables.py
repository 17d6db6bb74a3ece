"""Timetables: what leads to what, how many chips are needed, journeys, clashes and their moments."""

import itertools
import random
import unittest

from netting import EXAMPLE, WIDE, some_demands, some_net
from support import NOT_NUMBERS, Case

from surelet.errors import Early, InvalidRow, TooMany
from surelet.nets import Net
from surelet.rests import Window
from surelet.timetables import (
    clash, clash_moments, journeys, judge_clash, judge_journeys, leads, needed,
)

DEMANDS = [("b", 5), ("c", 20), ("c", 19), ("a", 0), ("a", 30), ("b", 40)]
# The functions that look at demands, with what else each one takes.
CALLS = [(needed, ()), (journeys, ()), (clash, ()), (judge_journeys, ([],)), (judge_clash, (None,)),
         (clash_moments, (None,))]


def slow_leads(net, demand, other):
    (i, c), (j, d) = demand, other
    return d - net.error_of(j) > net.rest(c + net.error_of(i)) + net.kappa(i, j)


def slow_needed(net, demands):
    """The greatest number of demands of which none leads to another one, over all sets."""
    for count in range(len(demands), 0, -1):
        for some in itertools.combinations(demands, count):
            if not any(slow_leads(net, one, other) for one in some for other in some):
                return count
    return 0


def fewest_journeys(net, demands):
    """The least number of journeys that have each index once, over all ways to go on."""
    best = len(demands)
    # What leads to a demand has a lesser reading less its error.
    order = sorted(range(len(demands)), key=lambda at: demands[at][1] - net.error_of(demands[at][0]))

    def place(at, ends):
        nonlocal best
        if len(ends) >= best:
            return
        if at == len(order):
            best = len(ends)
            return
        for k, end in enumerate(ends):
            if slow_leads(net, demands[end], demands[order[at]]):
                place(at + 1, ends[:k] + [order[at]] + ends[k + 1:])
        place(at + 1, ends + [order[at]])

    place(0, [])
    return best


class Leading(Case):
    def test_the_example(self):
        self.check_same([leads(EXAMPLE, ("b", 5), ("c", 20)), leads(EXAMPLE, ("b", 5), ("c", 19))], [True, False])
        self.check_same(leads(net=EXAMPLE, demand=("b", 5), other=("c", 20)), True)
        self.check_same(leads(other=("b", 5), demand=("c", 20), net=EXAMPLE), False)

    def test_the_least_reading(self):
        for net in (EXAMPLE, WIDE):
            for i, j in itertools.product(net.names(), repeat=2):
                for c in (12, 40, 77):
                    least = net.rest(c + net.error_of(i)) + net.kappa(i, j) + net.error_of(j) + 1
                    self.check_same([leads(net, (i, c), (j, d)) for d in (least - 1, least, least + 1)], [False, True, True])

    def test_itself_and_an_equal_one(self):
        for seed in range(20):
            chance = random.Random(seed)
            net = some_net(chance)
            for demand in some_demands(chance, net, 12, 60):
                self.check_same([leads(net, demand, demand), leads(net, demand, tuple(list(demand)))], [False, False])

    def test_leading_is_transitive(self):
        led = 0
        for seed in range(120):
            chance = random.Random(seed)
            net = some_net(chance, 8)
            demands = some_demands(chance, net, 12, 90)
            for one, other, third in itertools.product(demands, repeat=3):
                if leads(net, one, other) and leads(net, other, third):
                    self.assertTrue(leads(net, one, third), (seed, one, other, third))
                    led += 1
        self.assertGreater(led, 1000)


class Finding(Case):
    def test_the_example(self):
        self.check_same([needed(EXAMPLE, DEMANDS[:2]), needed(EXAMPLE, [("b", 5), ("c", 19)])], [1, 2])
        self.check_same([journeys(EXAMPLE, DEMANDS[:2]), clash(EXAMPLE, [("b", 5), ("c", 19)])], [[[0, 1]], [0, 1]])
        self.check_same(len(clash(EXAMPLE, DEMANDS[:2])), 1)
        self.check_same(needed(net=EXAMPLE, demands=DEMANDS), 2)
        self.check_same(judge_journeys(net=EXAMPLE, demands=DEMANDS, value=journeys(net=EXAMPLE, demands=DEMANDS)), None)
        self.check_same(judge_clash(net=EXAMPLE, demands=DEMANDS, value=clash(net=EXAMPLE, demands=DEMANDS)), None)

    def test_none(self):
        for demands in ([], ()):
            self.check_same([needed(EXAMPLE, demands), journeys(EXAMPLE, demands), clash(EXAMPLE, demands)], [0, [], []])
            self.check_same([clash_moments(EXAMPLE, demands, []), judge_journeys(EXAMPLE, demands, [])], [[], None])

    def check_found(self, net, demands, wanted=None):
        """Journeys and a clash are right, by this test itself."""
        ahead = list(demands)
        found, against = journeys(net, demands), clash(net, demands)
        count = needed(net, demands)
        self.check_same([type(found), type(against), len(found), len(against)], [list, list, count, count])
        self.check_same(sorted(index for journey in found for index in journey), list(range(len(demands))))
        for journey in found:
            self.check_same([type(journey), len(journey) > 0], [list, True])
            for one, other in zip(journey, journey[1:]):
                self.assertTrue(slow_leads(net, demands[one], demands[other]))
        self.check_same(against, sorted(set(against)))
        self.assertFalse(any(slow_leads(net, demands[one], demands[other]) for one in against for other in against))
        self.check_same([judge_journeys(net, demands, found), judge_clash(net, demands, against)], [None, None])
        if wanted is not None:
            self.check_same(count, wanted)
        found[0].append(99)
        found.clear()
        against.clear()
        self.check_same([len(journeys(net, demands)), len(clash(net, demands))], [count, count])
        self.check_same([journeys(net, demands), clash(net, demands)], [journeys(net, demands), clash(net, demands)])
        self.check_same(list(demands), ahead)
        return count

    def test_against_all_sets(self):
        counts = {}
        for seed in range(150):
            chance = random.Random(seed)
            net = some_net(chance, 5)
            demands = some_demands(chance, net, chance.randint(1, 8), chance.choice([30, 60, 120]))
            wanted = slow_needed(net, demands)
            self.check_same(fewest_journeys(net, demands), wanted)
            self.check_found(net, chance.choice([demands, tuple(demands)]), wanted)
            counts[len(demands) - wanted] = counts.get(len(demands) - wanted, 0) + 1
        self.assertGreaterEqual(len(counts), 5)

    def test_equal_demands_and_any_order(self):
        for seed in range(20):
            chance = random.Random(seed)
            net = some_net(chance)
            demands = some_demands(chance, net, 4, 60) * 2
            count = self.check_found(net, demands, slow_needed(net, demands))
            for _ in range(3):
                chance.shuffle(demands)
                self.check_found(net, demands, count)

    def test_many_demands(self):
        for seed in range(12):
            chance = random.Random(seed)
            net = some_net(chance, 12)
            self.check_found(net, some_demands(chance, net, chance.choice([24, 60]), chance.choice([100, 400])))
        line = [("a", 11 * at) for at in range(60)]
        self.check_found(EXAMPLE, line, 1)
        self.check_found(EXAMPLE, line[::-1], 1)
        self.check_found(EXAMPLE, [("a", 5)] * 60, 60)


class Judging(Case):
    def setUp(self):
        # The demand 0 leads to all, 1 and 2 lead to 3 and 4, and these two to nothing.
        self.demands = [("b", 5), ("c", 20), ("c", 21), ("a", 60), ("a", 60)]
        self.right = [[0, 1, 3], [2, 4]]

    def journey(self, value, word):
        ahead = list(self.demands)
        self.check_same(judge_journeys(EXAMPLE, self.demands, value), word)
        self.check_same(judge_journeys(EXAMPLE, tuple(self.demands), value), word)
        self.check_same(self.demands, ahead)

    def test_right_journeys(self):
        for value in (self.right, tuple(self.right), [(0, 1, 3), [2, 4]], [[2, 4], [0, 1, 3]], [[0], [1], [2], [3], [4]],
                      [(0,), (2, 3), (1, 4)], ((0, 2, 3), (1, 4))):
            self.journey(value, None)

    def test_journeys_of_other_forms(self):
        for value in NOT_NUMBERS + [5]:
            if value not in ([], (), [[1], [2]]):
                self.journey(value, "form")
            if value not in ([1, 2], (1,)):
                self.journey(self.right + [value], "form")
            self.journey([value, 9], "form")
        for value in NOT_NUMBERS + [-1, 5, 99, 10 ** 9]:
            self.journey([[0, 1, 3], [2, value]], "form")
            self.journey([[value]], "form")
        for value in ([[]], [[0, 1, 3], [2, 4], []], [[0, 1, 3], [2, 4], ()], [0, 1, 2, 3, 4], [[0, 1, 3], [2, [4]]]):
            self.journey(value, "form")

    def test_each_word_of_journeys(self):
        for value, word in (
            ([[0, 1, 3], [2, 4, 4]], "twice"), ([[0, 1, 3], [2, 4], [0]], "twice"), ([[0, 0], [1]], "twice"),
            ([[1, 0, 3], [2, 4]], "lead"), ([[0, 1, 2, 3], [4]], "lead"), ([[3, 4]], "lead"), ([[0, 3], [2, 4]], "missing"),
            ([], "missing"), ((), "missing"), ([[0]], "missing"),
        ):
            self.journey(value, word)

    def test_two_words_of_journeys(self):
        for value, word in (
            ([[0, 0, 9]], "form"), ([[1, 0], []], "form"), ([[0], None], "form"), ([[1, 0, 1]], "twice"),
            ([[0], [0]], "twice"), ([[1, 0]], "lead"),
        ):
            self.journey(value, word)

    def against(self, value, word):
        ahead = list(self.demands)
        self.check_same(judge_clash(EXAMPLE, self.demands, value), word)
        self.check_same(judge_clash(EXAMPLE, tuple(self.demands), value), word)
        self.check_same(self.demands, ahead)

    def test_clashes(self):
        for value in ([], (), [0], [4], [1, 2], (1, 2), [3, 4]):
            self.against(value, None)
        for value in NOT_NUMBERS + [5]:
            if value not in ([], (), [1, 2], (1,)):
                self.against(value, "form")
        for value in NOT_NUMBERS + [-1, 5, 99]:
            self.against([1, value], "form")
            self.against([value], "form")
        for value in ([2, 1], [1, 1], (1, 2, 2), [4, 3], [0, 9], [True], [0, True]):
            self.against(value, "form")
        for value in ([0, 1], (0, 4), [1, 2, 3], [2, 4]):
            self.against(value, "lead")
        # Both at once: an index that is none, behind two of which one leads to the other.
        for value in ([0, 1, 5], [1, 0], [0, 3, 3]):
            self.against(value, "form")


class Moments(Case):
    def test_the_example(self):
        demands = [("b", 5), ("c", 19), ("a", 60)]
        self.check_same(clash_moments(EXAMPLE, demands, [0, 1]), [6, 18, None])
        self.check_same(clash_moments(net=EXAMPLE, demands=tuple(demands), clash=(0, 1)), [6, 18, None])

    def test_against_the_words(self):
        for seed in range(60):
            chance = random.Random(seed)
            net = some_net(chance)
            demands = some_demands(chance, net, chance.randint(1, 10), 50)
            found = clash(net, demands)
            wanted = []
            for at, (j, d) in enumerate(demands):
                others = [demands[other] for other in found if other != at]
                moments = [net.rest(c + net.error_of(i)) + net.kappa(i, j) for i, c in others] + [d + net.error_of(j)]
                wanted.append(min(moments) if at in found else None)
            self.check_same(clash_moments(net, demands, found), wanted)
            for at in found:
                # Each moment fits its reading.
                self.assertLessEqual(abs(wanted[at] - demands[at][1]), net.error_of(demands[at][0]))
            self.check_same(clash_moments(net, demands, found[:1]).count(None), len(demands) - 1)

    def test_equal_demands(self):
        self.check_same(clash_moments(EXAMPLE, [("b", 5), ("b", 5)], [0, 1]), [6, 6])
        self.check_same(clash_moments(EXAMPLE, [("b", 5), ("b", 5)], [1]), [None, 6])
        self.check_same(clash_moments(EXAMPLE, [("b", 5), ("b", 5)], ()), [None, None])

    def test_what_is_no_clash(self):
        demands = [("b", 5), ("c", 20), ("c", 21)]
        for value in NOT_NUMBERS + [5, [0, 1], [2, 1], [1, 1], [3], [-1], [0, 1, 2]]:
            if value not in ([], (), (1,), [1, 2]):
                self.check_error(InvalidRow, [-1], clash_moments, EXAMPLE, demands, value)


class Wrong(Case):
    def everywhere(self, error, values, net, demands):
        for call, more in CALLS:
            self.check_error(error, values, call, net, demands, *more)

    def test_values_that_are_no_demands(self):
        for value in NOT_NUMBERS + [5]:
            if not isinstance(value, (list, tuple)):
                self.everywhere(InvalidRow, [-1], EXAMPLE, value)

    def test_items(self):
        for value in NOT_NUMBERS + [5, ("b",), ("b", 5, 1), ["b", 5], ("zz", 5), ("A", 5), ("b", -1), ("b", None),
                                    ("b", True), ("b", "5"), ((), 5), ([], 5), ({}, 5), (None, 5), ("b", 5.0)]:
            if value == ("a", 1):
                continue
            for at in (0, 2, 6):
                demands = DEMANDS[:at] + [value] + DEMANDS[at:]
                self.everywhere(InvalidRow, [at], EXAMPLE, demands)
                self.everywhere(InvalidRow, [at], EXAMPLE, tuple(demands) + (None,))
                self.everywhere(InvalidRow, [at], EXAMPLE, demands + [("a", 5)] * 60)
                self.everywhere(InvalidRow, [at], EXAMPLE, demands + [("b", 0)])
        self.everywhere(InvalidRow, [0], EXAMPLE, [("b", 0, 0)] + [("b", 0)] * 90)

    def test_too_many(self):
        self.check_same(needed(EXAMPLE, [("a", 5)] * 60), 60)
        for count in (61, 62, 100):
            self.everywhere(TooMany, ["booked", count], EXAMPLE, [("a", 5)] * count)
            self.everywhere(TooMany, ["booked", count], EXAMPLE, [("b", 0)] * count)

    def test_early_ones(self):
        # At b the reading is above 3 + 1, at c above 2 + 1; at the first place any reading will do.
        for demand, early in ((("b", 4), True), (("b", 5), False), (("c", 3), True), (("c", 4), False), (("a", 0), False),
                              (("b", 0), True)):
            for at in (0, 3):
                demands = DEMANDS[:at] + [demand, ("b", 1)] + DEMANDS[at:]
                self.everywhere(Early, [at if early else at + 1], EXAMPLE, demands)
            if not early:
                self.check_same(needed(EXAMPLE, [demand]), 1)
        net = Net(("a", None, 5, 0), ("b", "a", 0, 0), ("c", "b", 2, 3), rest=Window(3))
        for demand, early in ((("a", 0), False), (("b", 0), True), (("b", 1), False), (("c", 5), True), (("c", 6), False)):
            if early:
                self.everywhere(Early, [0], net, [demand])
            else:
                self.check_same(journeys(net, [demand]), [[0]])

    def test_errors_of_demands_are_ahead_of_those_of_values(self):
        for call in (judge_journeys, judge_clash, clash_moments):
            self.check_error(InvalidRow, [1], call, EXAMPLE, [("a", 5), None], {"a": 1})
            self.check_error(Early, [1], call, EXAMPLE, [("a", 5), ("b", 1)], {"a": 1})


if __name__ == "__main__":
    unittest.main()
