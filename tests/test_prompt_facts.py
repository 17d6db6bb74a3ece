"""What holds for prompt runs: stewards, the one run of a clash, and shares with a lead that is large enough or not."""

import random
import unittest

from netting import EXAMPLE, RESTS, some_choices, some_demands, some_moments, some_net
from support import Case

from surelet.nets import Net
from surelet.policies import Share, Steward, Stranger
from surelet.prompts import prompt
from surelet.rules import Rule, is_within
from surelet.timetables import clash, clash_moments, journeys, leads, needed


def run_of(net, demands, found, moments, choices):
    """The run in which each journey has a heap of one chip and its steward."""
    heap_of = {index: heap for heap, journey in enumerate(found) for index in journey}
    heaps = [(1, Steward(net, demands, journey)) for journey in found]
    rows = [(place, reading, heap_of[at]) for at, (place, reading) in enumerate(demands)]
    last = min(200, max([moment for moment in moments if moment is not None], default=0) + 2)
    return prompt(net, heaps, rows, moments=moments, choices=choices, last=last)


def some_policies(chance, net, demands, chips):
    """Policies of all kinds for one heap."""
    found = journeys(net, demands)
    return [None, Steward(net, demands, chance.choice(found)), Stranger([chance.randint(0, 999) for _ in range(3000)]),
            Stranger([1, 0, 0, 15] * 500), Share(chance.choice(net.names()), chance.randint(1, chips), 20, 9)]


class Stewards(Case):
    def test_no_demand_that_comes_is_refused(self):
        kept, led = 0, 0
        for seed in range(220):
            chance = random.Random(seed)
            net = some_net(chance, chance.choice([3, 6, 8]))
            demands = some_demands(chance, net, chance.randint(1, 14), chance.choice([30, 80, 150]))
            found = journeys(net, demands)
            led += len(demands) - len(found)
            moments = some_moments(chance, net, demands, chance.choice([0, 0, 0.2, 0.6]))
            run = run_of(net, demands, found, moments, some_choices(chance))
            self.check_same(run.kept(), [None if moment is None else True for moment in moments])
            kept += run.kept().count(True)
            for heap in range(len(found)):
                self.assertTrue(is_within(Rule("net", 1, net.rest), run.uses(heap)))
        self.assertGreater(min(kept, led), 500)

    def test_other_journeys(self):
        """Any journeys that have each demand once will do, not only as few as possible."""
        for seed in range(40):
            chance = random.Random(seed)
            net = some_net(chance)
            demands = some_demands(chance, net, 8, 100)
            found = []
            for index in chance.sample(range(8), 8):
                fits = [row for row in found if leads(net, demands[row[-1]], demands[index])]
                if fits and chance.random() < 0.8:
                    chance.choice(fits).append(index)
                else:
                    found.append([index])
            moments = some_moments(chance, net, demands, 0.2)
            run = run_of(net, demands, found, moments, some_choices(chance))
            self.check_same(run.kept(), [None if moment is None else True for moment in moments])


class Clashes(Case):
    def test_the_example(self):
        demands = [("b", 5), ("c", 19)]
        moments = clash_moments(EXAMPLE, demands, [0, 1])
        for policy in (None, Steward(EXAMPLE, demands, [0]), Steward(EXAMPLE, demands, [1]), Share("b", 1, 7, 5)):
            run = prompt(EXAMPLE, [(1, policy)], [("b", 5, 0), ("c", 19, 0)], moments=moments, last=20)
            self.assertIn(False, run.kept())

    def test_each_policy_with_fewer_chips_refuses(self):
        count, exact = 0, 0
        for seed in range(90):
            chance = random.Random(seed)
            net = some_net(chance, 5)
            demands = some_demands(chance, net, chance.randint(2, 10), chance.choice([20, 60]))
            found = clash(net, demands)
            self.check_same(len(found), needed(net, demands))
            moments = clash_moments(net, demands, found)
            rows = [(place, reading, 0) for place, reading in demands]
            for fewer in range(1, min(len(found), 4)):
                chips = len(found) - fewer
                for policy in some_policies(chance, net, demands, chips):
                    run = prompt(net, [(chips, policy)], rows, moments=moments, last=130)
                    self.assertGreaterEqual(run.kept().count(False), fewer, (seed, fewer))
                    self.check_same(run.kept().count(None), len(demands) - len(found))
                    count += 1
                    exact += run.kept().count(False) == fewer
        self.assertGreater(count, 500)
        self.assertGreater(exact, 10)

    def test_one_chip_and_two_demands(self):
        """One chip keeps both exactly if one leads to the other."""
        seen = {True: 0, False: 0}
        for seed in range(150):
            chance = random.Random(seed)
            net = some_net(chance, 4)
            one, other = sorted(some_demands(chance, net, 2, 50), key=lambda demand: demand[1])
            demands = [one, other]
            led = leads(net, one, other) or leads(net, other, one)
            seen[led] += 1
            if led:
                journey = [0, 1] if leads(net, one, other) else [1, 0]
                for _ in range(4):
                    moments = some_moments(chance, net, demands, 0)
                    self.check_same(run_of(net, demands, [journey], moments, some_choices(chance)).kept(), [True, True])
            else:
                moments = clash_moments(net, demands, [0, 1])
                rows = [(place, reading, 0) for place, reading in demands]
                for policy in some_policies(chance, net, demands, 1):
                    run = prompt(net, [(1, policy)], rows, moments=moments, last=100)
                    self.assertIn(False, run.kept())
        self.assertGreater(min(seen.values()), 30)

    def test_at_the_least_reading(self):
        """A demand at the least reading to which another one leads is kept with it, and one reading less is not."""
        for seed in range(60):
            chance = random.Random(seed)
            net = some_net(chance, 4)
            (i, c), (j, _) = some_demands(chance, net, 2, 40)
            least = net.rest(c + net.error_of(i)) + net.kappa(i, j) + net.error_of(j) + 1
            demands = [(i, c), (j, least)]
            for _ in range(4):
                moments = some_moments(chance, net, demands, 0)
                self.check_same(run_of(net, demands, [[0, 1]], moments, some_choices(chance)).kept(), [True, True])
            demands = [(i, c), (j, least - 1)]
            if j == net.names()[0] or least - 1 - net.error_of(j) > net.dist(net.names()[0], j):
                moments = clash_moments(net, demands, [0, 1])
                rows = [(place, reading, 0) for place, reading in demands]
                for policy in some_policies(chance, net, demands, 1):
                    self.assertIn(False, prompt(net, [(1, policy)], rows, moments=moments, last=110).kept())


class Shares(Case):
    def usable(self, net, share, choices, n):
        """The numbers of usable chips of b behind the receipt of the loan."""
        run = prompt(net, [(n + 1, share)], [], moments=[], choices=choices, last=110)
        rows = [row for row in run.operations(0) if row[1] == "b"]
        first = [row[3] for row in rows].index("letter")
        return [row[4] for row in rows[first + 1:]]

    def slow_elder(self, net, lead, span, last):
        """Choices by which the elder is slow, letters take their full delay, and the child is fast."""
        elder, child, delay = net.error_of("a"), net.error_of("b"), net.delay_of("b")
        numbers, due, end = [], [], None
        for t in range(last + 1):
            numbers += [-1] * (child > 0) * due.count(t)
            numbers += [0] * (elder > 0)
            sends = end is None or t - elder >= end - lead
            if sends:
                end = t - elder + span if end is None else end + span
                numbers += [0] * (delay > 0)
                due += [t + delay] * (delay > 0)
            numbers += [-1] * (child > 0)
            numbers += [-1] * (child > 0) * (sends and delay == 0)
        return numbers

    def test_a_lead_that_is_large_enough_and_one_less(self):
        kept = 0
        for elder in (0, 1, 3):
            for child in (0, 1, 2):
                for delay in (0, 1, 4):
                    rest = RESTS[(elder + child + delay) % len(RESTS)]
                    net = Net(("a", None, elder, 0), ("b", "a", child, delay), rest=rest)
                    enough = delay + elder + 2 * child + 1
                    for lead in (enough, enough + 1, enough + 4):
                        span = lead + delay + 2 * elder + 1 + (elder + child) % 3
                        for seed in range(3):
                            chance = random.Random(seed)
                            choices = [chance.randint(-5, 999) for _ in range(600)] if seed else []
                            got = self.usable(net, Share("b", 2, span, lead), choices, 2)
                            self.check_same(set(got), {2})
                            kept += len(got)
                        got = self.usable(net, Share("b", 2, span, lead), self.slow_elder(net, lead, span, 110), 2)
                        self.check_same(set(got), {2})
                    lead = enough - 1
                    if lead > 0:
                        span = lead + delay + 2 * elder + 1
                        got = self.usable(net, Share("b", 2, span, lead), self.slow_elder(net, lead, span, 110), 2)
                        self.check_same(set(got), {0, 2})
        self.assertGreater(kept, 10000)


if __name__ == "__main__":
    unittest.main()
