"""Prompt runs: the four steps, the choices, the letters, and what is refused; beside runs that are told step by step."""

import copy
import random
import unittest

from netting import some_choices, some_demands, some_moments, some_net
from slowprompts import SlowRun, SlowShare, SlowSteward, SlowStranger, all_of
from support import NOT_NUMBERS, Case

from surelet.errors import InvalidNumber, NotPrompt
from surelet.nets import Net
from surelet.policies import Share, Steward, Stranger
from surelet.prompts import Prompt, prompt
from surelet.rests import Days, Window
from surelet.timetables import journeys

NEAR = Net(("a", None, 1, 0), ("b", "a", 0, 0), ("c", "b", 0, 0), rest=Window(10))
PAIR = Net(("a", None, 0, 0), ("b", "a", 1, 3), rest=Window(10))


class Script:
    """A policy that does what it is told for the n-th time that it is asked for a place."""

    def __init__(self, told):
        self.told, self.asked, self.heard = told, {}, []

    def __call__(self, place, reading, purse, come):
        self.asked[place] = self.asked.get(place, 0) + 1
        self.heard.append((place, reading, purse.usable(place), come))
        purse.settle(reading + 9)
        return [(word, reading, "net", *items) for word, *items in self.told.get((place, self.asked[place]), [])]


class Steps(Case):
    def test_no_choices(self):
        """Clocks are slow, letters take their full delay, and demands come first."""
        run = prompt(PAIR, [(2, Share("b", 1, 20, 5))], [("a", 0, 0), ("b", 4, 0)], moments=[0, 4], last=5)
        self.assertIsInstance(run, Prompt)
        self.check_same(run.operations(0), [
            (0, "a", 0, "demand", 2), (0, "a", 0, "tick", 1), (0, "b", -1, "tick", 0), (1, "a", 1, "tick", 0),
            (1, "b", 0, "tick", 0), (2, "a", 2, "tick", 0), (2, "b", 1, "tick", 0), (3, "b", 2, "letter", 0),
            (3, "a", 3, "tick", 0), (3, "b", 2, "tick", 1), (4, "b", 4, "demand", 1), (4, "a", 4, "tick", 0),
            (4, "b", 3, "tick", 0), (5, "a", 5, "tick", 0), (5, "b", 4, "tick", 0),
        ])
        self.check_same(run.letters(0), [(0, ("lend", "net", "b", 1, 1, 20))])
        self.check_same([run.kept(), run.uses(0)], [[True, True], [(0, 1), (4, 1)]])

    def test_demands_ahead_or_behind(self):
        """The first choice of a moment with demands is theirs: at 0 they come ahead of the letters, at 1 at the end."""
        for choices, words in (((), "dlttt"), ([0], "dlttt"), ([2], "dlttt"), ([1], "ltttd"), ([-1], "ltttd"), ([3, 0], "ltttd")):
            script = Script({("a", 1): [("lend", "a", "b", 1, 20, None)]})
            # Ahead of the demand there are no choices: the errors and the delay are 0 until the moment 3.
            net = Net(("a", None, 0, 0), ("b", "a", 0, 3), ("c", "a", 0, 0), rest=Window(10))
            run = prompt(net, [(1, script)], [("b", 3, 0)], moments=[3], choices=[0, *choices], last=3)
            got = [row[3][0] for row in run.operations(0) if row[0] == 3]
            self.check_same("".join(got), words)
            self.check_same(run.kept(), [words == "ltttd"])

    def test_one_choice_for_all_demands_of_a_moment(self):
        net = Net(("a", None, 0, 0), rest=Window(3))
        rows = [("a", 2, 0), ("a", 1, 0), ("a", 2, 0), ("a", 1, 0)]
        run = prompt(net, [(4, None)], rows, moments=[2, 1, 2, 1], choices=[1, 0], last=2)
        self.check_same([row[3] for row in run.operations(0)], ["tick", "tick", "demand", "demand", "demand", "demand", "tick"])
        self.check_same(run.operations(0)[2:5],
                        [(1, "a", 1, "demand", 4), (1, "a", 1, "demand", 3), (2, "a", 2, "demand", 2)])

    def test_readings_of_ticks_are_one_for_all_heaps(self):
        run = prompt(NEAR, [(1, None), (2, None)], [], moments=[], choices=[2, 1, 5, -1], last=4)
        for heap in (0, 1):
            self.check_same([row[2] for row in run.operations(heap) if row[1] == "a"], [1, 1, 3, 4, 3])
            self.check_same([row[2] for row in run.operations(heap) if row[1] == "b"], [0, 1, 2, 3, 4])
        self.check_same([row[4] for row in run.operations(1) if row[1] == "a"], [2] * 5)

    def test_letters_and_their_choices(self):
        """The choice of a letter is made when it is sent, the one of its reading when it is carried."""
        def run_of(choices, last=4):
            script = Script({("a", 1): [("lend", "a", "b", 1, 20, None)]})
            return prompt(PAIR, [(2, script)], [], moments=[], choices=choices, last=last)
        for choices, row in (([], (3, "b", 2)), ([0], (3, "b", 2)), ([1], (2, "b", 1)), ([2], (1, "b", 0)), ([3], (0, "b", -1)),
                             ([4], (3, "b", 2)), ([3, 0, 1], (0, "b", 0)), ([3, 0, 2], (0, "b", 1)),
                             ([2, 0, 1, 2], (1, "b", 1)), ([-1, 1, -1], (0, "b", 1))):
            run = run_of(choices)
            self.check_same([(t, place, reading, word) for t, place, reading, word, _ in run.operations(0)
                             if word == "letter"], [(*row, "letter")])
        # At the moment 1 the letter that is due at 1 comes ahead of the ticks, at 0 behind them.
        self.check_same([row[3] for row in run_of([2], 1).operations(0)], ["tick", "tick", "letter", "tick", "tick"])
        self.check_same([row[3] for row in run_of([3], 1).operations(0)], ["tick", "tick", "letter", "tick", "tick"])
        self.check_same([row[0] for row in run_of([3], 1).operations(0)], [0, 0, 0, 1, 1])

    def test_letters_that_are_sent_while_others_are_carried(self):
        """Over edges without a delay they come in the same step, behind those that were sent ahead of them."""
        script = Script({
            ("a", 1): [("lend", "a", "b", 1, 20, None), ("lend", "a", "b", 2, 30, None)],
            # Asked for b the first time at a tick, then behind the two letters.
            ("b", 2): [("lend", "b", "c", 1, 15, None)], ("c", 2): [("give", "c", 1, ((0, 1),))],
        })
        run = prompt(NEAR, [(5, script)], [], moments=[], last=0)
        self.check_same([row[1:] for row in run.operations(0)], [
            ("a", -1, "tick", 5), ("b", 0, "tick", 0), ("c", 0, "tick", 0), ("b", 0, "letter", 0), ("b", 0, "letter", 0),
            ("c", 0, "letter", 0), ("b", 0, "letter", 2),
        ])
        self.check_same([letter[0] for _, letter in run.letters(0)], ["lend", "lend", "lend", "back"])
        self.check_same([place for place, _, _, _ in script.heard], ["a", "b", "c", "b", "b", "c", "b"])

    def test_letters_overtake_by_their_choices_alone(self):
        """Of the letters that are due the one that was sent first comes first."""
        script = Script({("a", 1): [("lend", "a", "b", 1, 20, None)], ("a", 2): [("lend", "a", "b", 2, 30, None)]})
        net = Net(("a", None, 0, 0), ("b", "a", 0, 3), rest=Window(10))
        for choices, order in (([], [(3, 0), (4, 1)]), ([0, 3], [(1, 0), (3, 2)]), ([1, 2], [(2, 0), (2, 1)]),
                               ([0, 1], [(3, 0), (3, 1)])):
            script.asked.clear()
            run = prompt(net, [(5, script)], [], moments=[], choices=choices, last=5)
            got = [(row[0], row[4]) for row in run.operations(0) if row[3] == "letter"]
            self.check_same(got, order)

    def test_a_letter_back_goes_to_the_elder(self):
        script = Script({("a", 1): [("lend", "a", "b", 2, 20, None)], ("b", 2): [("give", "b", 1, ((0, 1),))]})
        run = prompt(NEAR, [(3, script)], [], moments=[], choices=[], last=1)
        self.check_same([row for row in run.operations(0) if row[3] == "letter"],
                        [(0, "b", 0, "letter", 0), (0, "a", -1, "letter", 1)])
        self.check_same([row[4] for row in run.operations(0)][-3:], [2, 1, 0])

    def test_who_is_asked_and_told_what(self):
        script = Script({("a", 1): [("lend", "a", "b", 1, 20, None)]})
        rows = [("a", 1, 1), ("a", 0, 0), ("b", 9, 0), ("a", 1, 0)]
        run = prompt(PAIR, [(2, script), (1, None)], rows, moments=[1, 0, None, 1], choices=[1, 3, 0, 2], last=1)
        # The first choice lets the demand of the moment 0 come at its end, the second one the letter at once.
        self.check_same(script.heard, [
            ("a", 0, 2, ()), ("b", -1, 0, ()), ("b", 1, 1, ()), ("a", 1, 0, (0, 1, 3)), ("b", 0, 1, (0, 1, 3)),
        ])
        self.check_same(run.kept(), [True, True, None, False])

    def test_a_copy_of_the_purse_is_passed(self):
        """The script spoils what it is passed; the run goes on as without it."""
        one = prompt(PAIR, [(2, Script({}))], [("a", 3, 0)], moments=[3], last=6)
        other = prompt(PAIR, [(2, None)], [("a", 3, 0)], moments=[3], last=6)
        self.check_same(all_of(one, 1), all_of(other, 1))

    def test_a_refused_deed_is_passed_over(self):
        script = Script({("a", 1): [("lend", "a", "b", 9, 20, None), ("lend", "a", "zz", 1, 20, None), ("prolong", 1, 30),
                                    ("lend", "a", "b", 1, 20, None), ("lend", "a", "b", 1, 0, None), ("prolong", 1, 30),
                                    ("give", "a", 0, ((0, 1),)), ("prolong", 1, 30), ("lend", "a", "b", 1, 25, 0)]})
        run = prompt(PAIR, [(2, script)], [], moments=[], choices=[0, 1, 2, 0], last=5)
        self.check_same(run.letters(0), [(0, ("lend", "net", "b", 1, 1, 20)), (0, ("extend", "net", "b", 1, 30)),
                                         (0, ("lend", "net", "b", 2, 1, 25))])
        # Only the letters that were sent took a choice: they are due at 3, 2 and 1.
        self.check_same([row[0] for row in run.operations(0) if row[3] == "letter"], [1, 2, 3])

    def test_two_heaps(self):
        rows = [("a", 0, 0), ("a", 0, 1), ("b", 5, 1), ("b", 5, 0)]
        run = prompt(PAIR, [(1, None), (2, Share("b", 1, 20, 5))], rows, moments=[0, 0, 5, 5], last=6)
        self.check_same(run.kept(), [True, True, True, False])
        self.check_same([run.uses(0), run.uses(1)], [[(0, 1)], [(0, 1), (5, 1)]])
        self.check_same([run.letters(0), len(run.letters(1))], [[], 1])
        self.check_same([row[3:] for row in run.operations(0) if row[0] == 5],
                        [("demand", 0), ("tick", 0), ("tick", 0)])

    def test_demands_that_do_not_come(self):
        run = prompt(PAIR, [(1, None)], [("a", 2, 0), ("b", 0, 0), ("a", 2, 0)], moments=[None, None, 2], last=4)
        self.check_same([run.kept(), run.uses(0)], [[None, None, True], [(2, 1)]])
        self.check_same([row[3] for row in run.operations(0)].count("demand"), 1)

    def test_the_least_and_the_last_moment(self):
        run = prompt(PAIR, [(1, None)], [("b", -1, 0), ("a", 0, 0)], moments=[0, 0], last=0)
        self.check_same([run.kept(), len(run.operations(0))], [[False, True], 4])
        run = prompt(PAIR, [(1, None)], [("a", 200, 0)], moments=[200], last=200)
        self.check_same([run.kept(), run.operations(0)[-1][0], len(run.operations(0))], [[True], 200, 403])
        run = prompt(PAIR, [], [], moments=[], last=3)
        self.check_same(run.kept(), [])

    def test_a_refused_demand_settles_alone(self):
        net = Net(("a", None, 0, 0), rest=Window(5))
        rows = [("a", at, 0) for at in (0, 3, 5, 5, 9, 10)]
        run = prompt(net, [(1, None)], rows, moments=[0, 3, 5, 5, 9, 10], last=11)
        self.check_same(run.kept(), [True, False, True, False, False, True])
        self.check_same(run.uses(0), [(0, 1), (5, 1), (10, 1)])

    def test_the_rest_of_the_net(self):
        net = Net(("a", None, 0, 0), rest=Days([4], 6))
        run = prompt(net, [(1, None)], [("a", at, 0) for at in (1, 3, 4, 9, 10)], moments=[1, 3, 4, 9, 10], last=10)
        self.check_same(run.kept(), [True, False, True, False, True])


class Told(Case):
    def test_all_by_name(self):
        run = prompt(net=PAIR, heaps=[(2, None)], demands=[("a", 0, 0)], moments=[0], choices=[1], last=2)
        other = prompt(PAIR, ((2, None),), (("a", 0, 0),), moments=(0,), choices=(1,), last=2)
        self.check_same(all_of(run, 1), all_of(other, 1))
        self.check_same([run.uses(heap=0), run.letters(heap=0)], [[(0, 1)], []])
        self.check_same(run.operations(heap=0), run.operations(0))

    def test_told_lists_are_new(self):
        run = prompt(PAIR, [(2, Share("b", 1, 20, 5))], [("a", 0, 0)], moments=[0], last=4)
        ahead = copy.deepcopy(all_of(run, 1))
        for told in (run.kept(), run.uses(0), run.operations(0), run.letters(0)):
            self.assertGreater(len(told), 0)
            told.append(7)
            told.pop(0)
        self.check_same(all_of(run, 1), ahead)

    def test_what_is_handed_in_stays(self):
        heaps, rows, moments, choices = [(1, Stranger([1] * 99))], [("a", 0, 0), ("b", 4, 0)], [0, 4], [1, 2, 3]
        run = prompt(PAIR, heaps, rows, moments=moments, choices=choices, last=9)
        self.check_same([len(heaps), rows, moments, choices], [1, [("a", 0, 0), ("b", 4, 0)], [0, 4], [1, 2, 3]])
        ahead = all_of(run, 1)
        for told in (heaps, rows, moments, choices):
            told.clear()
        self.check_same(all_of(run, 1), ahead)


class Wrong(Case):
    ROWS = [("a", 4, 0), ("b", 4, 1), ("a", 5, 0)]

    def refused(self, error, values, *, heaps=((1, None), (1, None)), demands=None, moments=(4, 4, 5), last=9):
        demands = self.ROWS if demands is None else demands
        self.check_error(error, values, prompt, PAIR, list(heaps), demands, moments=list(moments), last=last)

    def test_each_error_in_its_order(self):
        for last in NOT_NUMBERS + [-1, 201]:
            self.refused(InvalidNumber, [last], last=last)
            self.refused(InvalidNumber, [last], last=last, heaps=[(0, None), (None, None)], moments=[])
        for chips in NOT_NUMBERS + [0, -1, 1001]:
            self.refused(InvalidNumber, [chips], heaps=[(chips, None), (1, None)])
            self.refused(InvalidNumber, [chips], heaps=[(1000, None), (chips, None), (0, None)], moments=[None, "x"])
        self.refused(NotPrompt, [2], moments=[4, 4])
        self.refused(NotPrompt, [0], moments=[])
        self.refused(NotPrompt, [3], moments=[4, 4, 5, None])
        self.refused(NotPrompt, [3], moments=[4, 4, 5, 5, 5, "x"])
        self.refused(NotPrompt, [0], demands=[], moments=[None])

    def test_moments_of_any_kind(self):
        for moment in NOT_NUMBERS + [-1, 10, 3, 5, 10 ** 9]:
            if moment is not None:
                self.refused(NotPrompt, [0], moments=[moment, 4, 5])
                self.refused(NotPrompt, [0], moments=[moment])
                self.refused(NotPrompt, [0], moments=[moment, "x", 5, 5])
        for moment in NOT_NUMBERS + [-1, 2, 6]:
            if moment is not None:
                self.refused(NotPrompt, [1], moments=[None, moment, 5])
        for moment in (3, 4, 5, None):
            prompt(PAIR, [(1, None), (1, None)], self.ROWS, moments=[4, moment, 5], last=9)
        self.refused(NotPrompt, [2], moments=[4, 4, 5], last=4)
        self.refused(NotPrompt, [0], moments=[4, 4, 5], last=3)
        self.refused(NotPrompt, [0], demands=[("b", -1, 0)], moments=[-1])
        self.refused(NotPrompt, [0], demands=[("b", -2, 0)], moments=[0])
        self.check_same(prompt(PAIR, [(1, None)], [("b", -1, 0)], moments=[0], last=0).kept(), [False])

    def test_a_refused_call_leaves_the_policies_as_they_are(self):
        share = Share("b", 1, 20, 5)
        self.refused(NotPrompt, [2], heaps=[(1, share), (1, share)], moments=[4, 4])
        run = prompt(PAIR, [(1, share)], [], moments=[], last=0)
        self.check_same(run.letters(0), [(0, ("lend", "net", "b", 1, 1, 20))])


class Slow(Case):
    def test_random_runs(self):
        """What a run tells is what a run tells that is done step by step."""
        words = {}
        for seed in range(70):
            chance = random.Random(seed)
            net = some_net(chance)
            demands = some_demands(chance, net, chance.randint(0, 12), 60)
            found = journeys(net, demands)
            heaps, slow = [], []
            for _ in range(chance.randint(1, 4)):
                mine, other = self.policies(chance, net, demands, found)
                chips = chance.randint(1, 4)
                heaps.append((chips, mine))
                slow.append((chips, other))
            rows = [(place, reading, chance.randrange(len(heaps))) for place, reading in demands]
            for _ in range(2):
                moments = some_moments(chance, net, demands, 0.2)
                choices = some_choices(chance)
                last = max([moment for moment in moments if moment is not None], default=0) + 3
                run = prompt(net, heaps, rows, moments=moments, choices=choices, last=last)
                wanted = SlowRun(net, slow, rows, moments, choices, last).all(len(heaps))
                self.check_same(all_of(run, len(heaps)), wanted)
                for kept in run.kept():
                    words[kept] = words.get(kept, 0) + 1
                for heap in range(len(heaps)):
                    for _, letter in run.letters(heap):
                        words[letter[0]] = words.get(letter[0], 0) + 1
        for word in (True, False, None, "lend", "extend", "back"):
            self.assertGreater(words.get(word, 0), 50, words)

    def policies(self, chance, net, demands, found):
        """A policy of the package, and the same one told step by step."""
        what = chance.choice(["share", "stranger", "stranger", "steward", "steward", "none"])
        if what == "share":
            told = (chance.choice(net.names()), chance.randint(1, 3), chance.randint(1, 20), chance.randint(1, 12))
            return Share(*told), SlowShare(*told)
        if what == "stranger":
            numbers = [chance.randint(-50, 5000) for _ in range(chance.choice([0, 50, 3000]))]
            return Stranger(numbers), SlowStranger(numbers)
        if what == "steward" and found:
            journey = chance.choice(found)
            return Steward(net, demands, journey), SlowSteward(net, demands, journey)
        return None, None

    def test_equal_calls(self):
        """Equal runs with equal policies tell the same."""
        for seed in range(6):
            told = []
            for _ in range(2):
                chance = random.Random(seed)
                net = some_net(chance)
                demands = some_demands(chance, net, 8, 60)
                heaps = [(2, self.policies(chance, net, demands, journeys(net, demands))[0]) for _ in range(3)]
                rows = [(place, reading, chance.randrange(3)) for place, reading in demands]
                moments, choices = some_moments(chance, net, demands, 0.1), some_choices(chance)
                told.append(all_of(prompt(net, heaps, rows, moments=moments, choices=choices, last=80), 3))
            self.check_same(told[0], told[1])


if __name__ == "__main__":
    unittest.main()
