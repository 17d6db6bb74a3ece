"""Prompt runs and policies that are told step by step, against which those of the package are compared."""

from surelet.deeds import perform
from surelet.errors import Missing, SureletError
from surelet.purses import Purse


class Numbers:
    """Choices: a number of the list for each real choice, modulo the possibilities."""

    def __init__(self, numbers):
        self.left = list(numbers)

    def among(self, count):
        if count > 1 and self.left:
            return self.left.pop(0) % count
        return 0


class SlowShare:
    def __init__(self, child, n, span, lead):
        self.child, self.n, self.span, self.lead = child, n, span, lead
        self.asked = []

    def __call__(self, place, reading, purse, come):
        rule = purse.tree.rule.name
        if place not in [one.elder for one in purse.tree.places() if one.name == self.child]:
            return []
        if not self.asked:
            self.number = int(purse.table()[rule + " next"])
            self.asked.append(reading + self.span)
            return [("lend", reading, rule, place, self.child, self.n, self.asked[-1], None)]
        if self.asked[-1] - reading > self.lead:
            return []
        self.asked.append(self.asked[-1] + self.span)
        return [("prolong", reading, rule, self.number, self.asked[-1])]


class SlowStranger:
    def __init__(self, numbers):
        self.numbers = Numbers(numbers)

    def __call__(self, place, reading, purse, come):
        rule, among = purse.tree.rule.name, self.numbers.among
        what = ["nothing", "lend", "give", "prolong"][among(4)]
        if what == "lend":
            children = [one.name for one in purse.tree.places() if one.elder == place]
            if children:
                child = children[among(len(children))]
                n = [1, 2, 3][among(3)]
                return [("lend", reading, rule, place, child, n, reading + [k + 1 for k in range(40)][among(40)], None)]
        if what == "give" and purse.tree.places()[0].name != place:
            lots = {lot[0]: lot[3] for lot in purse.lots(place) if lot[3]}
            if lots:
                number = sorted(lots)[among(len(lots))]
                return [("give", reading, rule, place, number, ((0, among(lots[number]) + 1),))]
        if what == "prolong":
            ends = {loan[0]: loan[3] for lot in purse.lots(place) for loan in lot[5]}
            if ends:
                number = sorted(ends)[among(len(ends))]
                return [("prolong", reading, rule, number, ends[number] + 1 + among(20))]
        return []


class SlowSteward:
    def __init__(self, net, demands, journey):
        self.net, self.demands, self.journey = net, list(demands), list(journey)
        self.lows = [0]

    def latest(self, index):
        place, reading = self.demands[index]
        return reading + self.net.error_of(place)

    def __call__(self, place, reading, purse, come):
        self.lows.append(max(reading - self.net.error_of(place), purse.past))
        legs = [k for k, index in enumerate(self.journey) if index not in come and self.latest(index) >= max(self.lows)]
        ready = {lot[0]: lot[1] for lot in purse.lots(place) if lot[3] >= 1}
        if not ready or not legs:
            return []
        leg, rule = legs[0], purse.tree.rule.name
        target = self.demands[self.journey[leg]][0]
        if target == place:
            return []
        tree = self.net.tree_of(1)
        if tree.is_above(place, target):
            child = [one for one in tree.children(place) if one == target or tree.is_above(one, target)][0]
            for k in range(leg, len(self.journey)):
                if k == len(self.journey) - 1:
                    break
                i, j = self.demands[self.journey[k]][0], self.demands[self.journey[k + 1]][0]
                turn = self.net.kappa_place(i, j)
                if turn == place or tree.is_above(turn, place):
                    break
            return [("lend", reading, rule, place, child, 1, self.latest(self.journey[k]) + 1, None)]
        number = sorted(ready, key=lambda number: (-ready[number], number))[0]
        return [("give", reading, rule, place, number, ((0, 1),))]


class SlowRun:
    """The run of [39], of which all is told in one list."""

    def __init__(self, net, heaps, demands, moments, choices, last):
        self.net, self.demands, self.numbers = net, demands, Numbers(choices)
        self.policies = [policy for _, policy in heaps]
        self.purses = [{place: Purse(net.tree_of(chips), place, net.error_of(place)) for place in net.names()}
                       for chips, _ in heaps]
        self.kept = {}
        self.told, self.sent, self.bag = [], [], []
        for t in range(last + 1):
            coming = [at for at, moment in enumerate(moments) if moment is not None and moment == t]
            turn = self.numbers.among(2) if coming else 0
            steps = [self.letters, self.ticks, self.letters]
            steps.insert(3 if turn else 0, lambda t, coming=coming: self.come(t, coming))
            for step in steps:
                step(t)

    def come(self, t, coming):
        for at in coming:
            place, reading, heap = self.demands[at]
            usable = self.operation(t, heap, place, reading, "demand")
            self.kept[at] = usable >= 1
            if usable >= 1:
                self.purses[heap][place].use(reading, place, 1)

    def operation(self, t, heap, place, reading, word):
        self.purses[heap][place].settle(reading)
        usable = self.purses[heap][place].copy().usable(place)
        self.told.append((heap, (t, place, reading, word, usable)))
        return usable

    def clock(self, t, place):
        error = self.net.error_of(place)
        return list(range(t - error, t + error + 1))[self.numbers.among(2 * error + 1)]

    def letters(self, t):
        while True:
            due = [row for row in self.bag if row["due"] <= t]
            if not due:
                return
            self.bag = [row for row in self.bag if row is not due[0]]
            heap, letter = due[0]["heap"], due[0]["letter"]
            place = self.net.elder_of(letter[2]) if letter[0] == "back" else letter[2]
            reading = self.clock(t, place)
            self.operation(t, heap, place, reading, "letter")
            self.purses[heap][place].receive(reading, letter)
            self.ask(t, heap, place, reading)

    def ticks(self, t):
        for place in self.net.names():
            reading = self.clock(t, place)
            for heap in range(len(self.purses)):
                self.operation(t, heap, place, reading, "tick")
                self.ask(t, heap, place, reading)

    def ask(self, t, heap, place, reading):
        if self.policies[heap] is None:
            return
        purse = self.purses[heap][place]
        for deed in self.policies[heap](place, reading, purse.copy(), tuple(sorted(self.kept))):
            try:
                answer = perform(purse, deed)
            except (SureletError, Missing):
                continue
            letter = answer[1] if deed[0] == "lend" else answer
            delay = self.net.delay_of(letter[2])
            self.sent.append((heap, (t, letter)))
            self.bag.append({"due": t + list(range(delay, -1, -1))[self.numbers.among(delay + 1)], "heap": heap,
                             "letter": letter})

    def all(self, heaps):
        """What a prompt run tells: what is kept, and the uses, operations and letters of each heap."""
        found = [[self.kept.get(at) for at in range(len(self.demands))]]
        for heap in range(heaps):
            own = [row for one, row in self.told if one == heap]
            kept = [row[0] for row in own if row[3] == "demand" and row[4] >= 1]
            found += [[(t, 1) for t in kept], own, [row for one, row in self.sent if one == heap]]
        return found


def all_of(run, heaps):
    """The same of a prompt run of the package."""
    found = [run.kept()]
    for heap in range(heaps):
        found += [run.uses(heap), run.operations(heap), run.letters(heap)]
    return found
