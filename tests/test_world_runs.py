"""The two facts over random runs: never over, and each no has a witness."""

import random
import unittest

from running import CLOCKS, Runner, counted, lone_house, wide_house
from support import Case, facts

from surelet.houses import House
from surelet.rests import Days, Window
from surelet.rules import Rule
from surelet.servers import Server
from surelet.trees import Place, Tree
from surelet.witnesses import judge_witness, witness
from surelet.worlds import World


def most_in_a_stretch(rest, uses):
    """The greatest sum of uses in a stretch, over all moments one by one."""
    last = max([moment for moment, _ in uses], default=0)
    return max(sum(n for moment, n in uses if start <= moment < rest(start)) for start in range(last + 1))


class Never(Case):
    def check_uses(self, world, uses):
        """The world counts these uses of each rule, and they are within it."""
        for rule in world.house.rules():
            own = [(moment, n) for other, moment, n in uses if other == rule]
            self.check_same(world.uses(rule), own)
            told = world.house.tree_of(rule).rule
            most = most_in_a_stretch(told.rest, own)
            self.assertLessEqual(most, told.chips)
            count, start = world.fullest(rule)
            self.check_same(count, most if own else 0)
            if own:
                full = [s for s, _ in own if sum(n for m, n in own if s <= m < told.rest(s)) == count]
                self.check_same(start, min(full))
        self.check_same(world.over(), [])

    def test_runs(self):
        seen, total = {}, 0
        for seed in range(48):
            chance = random.Random(seed)
            house = (wide_house, lone_house)[seed % 2](chance, chance.choice([2, 5, 8]))
            runner = Runner(house, seed, CLOCKS[seed // 2 % 4], chance.choice([0, 0.02, 0.06]), chance.choice([1, 2, 16]))
            uses, letters = [], []
            for _ in range(200):
                event, got = runner.step()
                uses += counted(event, got)
                key = (event[3][0] if event[0] == "deed" else event[0], got[0])
                seen[key] = seen.get(key, 0) + 1
                letters = self.letters_behind(letters, event, got)
            self.check_same(runner.world.letters(), letters)
            self.check_uses(runner.world, uses)
            total += len(uses)
        for word in ("tick", "request", "enter", "use", "lend", "prolong", "give", "recall", "carry", "lose", "fall",
                     "wake", "crash"):
            self.assertGreater(seen.get((word, "returned"), 0), 50, word)
        self.assertGreater(total, 400)

    def letters_behind(self, letters, event, got):
        """The letters of a world, by the events and what they returned."""
        if got[0] != "returned":
            return letters
        if event[0] == "lose":
            return letters[:event[1]] + [None] + letters[event[1] + 1:]
        if event[0] == "deed" and event[3][0] in ("lend", "prolong", "give"):
            letter = got[1][1] if event[3][0] == "lend" else got[1]
            return letters + [letter] * (letter is not None)
        return letters

    def test_each_cut_of_a_fall(self):
        """The same run with each cut of three unsynced writes: what was let by stays within the rule."""
        tree = Tree(Rule("p", 2, Window(10)), Place("a", "sa"), Place("m", "sa", "a", memory=True), Place("b", "sb", "a"))
        house = House(tree, servers=[("sa", 0), ("sb", 0)], customers=[("ann", None, 1, ["p"])])
        words = ("kept", "lost", "torn")
        for cut in [(x, y, z) for x in words for y in words for z in words]:
            world = World(house, rows=2)
            world.do(("deed", 0, "sa", ("lend", 0, "p", "a", "m", 1, None, None)))
            for moment in (1, 2, 3):
                world.do(("deed", moment, "sa", ("request", moment, "ann", 1)))
            self.check_same(len(world.server_of("sa").disk().unsynced()) > 0, True)
            world.do(("fall", 3, "sa", cut))
            world.do(("wake", 3, "sa", 3))
            answers = [world.do(("deed", moment, "sa", ("request", moment, "ann", 1))).word for moment in range(4, 30)]
            self.check_same(world.over(), [])
            self.assertIn("yes", answers)
            self.check_same(world.do(("deed", 60, "sa", ("request", 60, "ann", 2))).word, "yes")


class Exactly(Case):
    def check_no(self, house, purse, customer, asked):
        """There is a right witness for the no, and this test plays it itself, in a new world of the house."""
        told = witness(house, purse, customer, asked)
        self.assertIsNone(judge_witness(house, told, purse))
        self.check_same([told.rule, told.server, told.reading, told.customer, told.asked],
                        [purse.tree.rule.name, purse.server, purse.last_reading, customer, asked])
        world = World(house)
        for event in told.events():
            world.do(event)
        rule, server = told.rule, told.server
        world.do(("deed", told.moment, server, ("tick", told.reading)))
        own = world.server_of(server).purse(rule)
        self.check_same(own.standing(), purse.standing())
        path = house.path(customer) if customer else []
        ready = own.payable(path)
        self.check_same(ready, purse.payable(path))
        for place, lot, n in own.pay(told.reading, path, ready) if ready else []:
            world.do(("deed", told.moment, server, ("use", told.reading, rule, place, n, lot)))
        for event in told.extras():
            world.do(event)
            self.check_same(event[1], told.moment)
        self.check_same([world.over(), world.now], [[], told.moment])
        end = house.tree_of(rule).rule.rest(told.start)
        let = sum(n for moment, n in world.uses(rule) if told.start <= moment < end)
        self.assertTrue(told.start <= told.moment < end)
        self.assertGreater(let - ready + asked, house.tree_of(rule).rule.chips)

    def nos(self, event, got):
        """The customers, costs and rules of the noes of an event."""
        if event[0] != "deed" or got[0] != "returned" or event[3][0] not in ("request", "enter"):
            return []
        customer, cost = event[3][-2:] if event[3][0] == "request" else event[3][3:5]
        return [(customer, cost, got[1].rule)] if got[1].word == "no" else []

    def test_runs(self):
        count, kinds = 0, {}
        for seed in range(40):
            chance = random.Random(1000 + seed)
            house = (wide_house, lone_house)[seed % 2](chance)
            runner = Runner(house, seed, CLOCKS[seed // 2 % 4], chance.choice([0, 0.01, 0.04]))
            for _ in range(160):
                event, got = runner.step()
                for customer, cost, rule in self.nos(event, got):
                    server = runner.world.server_of(event[2])
                    if event[2] in house.tree_of(rule).servers():
                        purse = server.purse(rule)
                        self.check_same(got[1].ready, purse.payable(house.path(customer)))
                        self.check_no(house, purse, customer, cost)
                        kinds[rule] = kinds.get(rule, 0) + 1
                count += self.check_some_purse(chance, house, runner, event)
        self.assertGreater(min(kinds.values()), 20, kinds)
        self.assertGreater(count, 500)

    def check_some_purse(self, chance, house, runner, event):
        """Asks for more than is payable at the server of an event, for somebody or nobody; returns how often."""
        if event[0] == "lose" or chance.random() > 0.2:
            return 0
        server = runner.world.server_of(event[2])
        rules = [rule for rule in house.rules() if event[2] in house.tree_of(rule).servers()]
        if server.fallen or not rules:
            return 0
        purse = server.purse(chance.choice(rules))
        customer = chance.choice([None] + house.customers())
        if purse.last_reading is None:
            return 0
        ready = purse.payable(house.path(customer) if customer else [])
        self.check_no(house, purse, customer, ready + chance.choice([1, 1, 2, 50, 10 ** 8]))
        return 1

    def test_heads_that_a_tick_passes_over(self):
        """Each head that a tick leaves waiting has a rule whose purse has a witness for it."""
        count = 0
        for seed in range(30):
            house = lone_house(random.Random(seed), 4)
            runner = Runner(house, seed, CLOCKS[seed % 4], 0.01)
            for _ in range(150):
                event, got = runner.step()
                if event[0] == "deed" and event[3][0] == "tick" and got[0] == "returned":
                    server = runner.world.server_of(event[2])
                    for room in house.rooms(event[2]):
                        head = server.head_of(room)
                        if head is not None:
                            self.check_no(house, server.purse("p"), head[0], head[1])
                            count += 1
        self.assertGreater(count, 50)


class Clocks(Case):
    def test_better_clocks(self):
        """What a server refuses by its readings, each one with a greater error refuses, too."""
        fewer = 0
        for seed in range(30):
            chance = random.Random(seed)
            rest = chance.choice([Window(10), Days([3, 7, 20], 5), Window(4)])
            tree = Tree(Rule("p", 6, rest), Place("a", "sa"), Place("b", "sb", "a"), Place("b2", "sb", "b"))
            servers = []
            for error in (0, 1, 3, 7):
                house = House(tree, servers=[("sa", error), ("sb", error)], customers=[("ann", None, 1, ["p"])])
                servers.append({name: Server(house, name) for name in ("sa", "sb")})
            reading = 0
            letter = servers[0]["sa"].copy().lend(0, "p", "a", "b", 4, until=50)[1]
            for group in servers:
                group["sb"].receive(0, letter)
            for _ in range(40):
                reading += chance.choice([0, 1, 2, 3])
                name = chance.choice(["sa", "sb"])
                asked = []
                for group in servers:
                    copy = group[name].copy()
                    answers = [copy.copy().request(reading, "ann", cost).word for cost in range(1, 7)]
                    asked.append(answers.count("yes"))
                self.assertEqual(asked, sorted(asked, reverse=True), (seed, reading))
                fewer += asked[0] > asked[-1]
                # All of them do only what the worst clock allows.
                if asked[-1] > 0:
                    for group in servers:
                        self.check_same(group[name].request(reading, "ann", 1).word, "yes")
                else:
                    for group in servers:
                        group[name].tick(reading)
        self.assertGreater(fewer, 50)


class Full(Case):
    def test_a_rule_that_is_filled_to_its_last_chip(self):
        tree = Tree(Rule("p", 5, Window(10)), Place("a", "sa"), Place("b", "sb", "a"), Place("c", "sc", "b"),
                    Place("m", "sb", "b", memory=True))
        house = House(tree, servers=[("sa", 0), ("sb", 0), ("sc", 0)], customers=[("ann", None, 1, ["p"])])
        world = World(house)
        for event in (
            ("deed", 0, "sa", ("lend", 0, "p", "a", "b", 4, 30, None)), ("deed", 0, "sb", ("carry", 0, 0)),
            ("deed", 0, "sb", ("lend", 0, "p", "b", "c", 1, 30, None)), ("deed", 0, "sc", ("carry", 0, 1)),
            ("deed", 0, "sb", ("lend", 0, "p", "b", "m", 2, None, None)),
        ):
            world.do(event)
        for start in (3, 13):
            for name, n in (("sa", 1), ("sb", 3), ("sc", 1)):
                for moment in (start, start + 9):
                    answer = world.copy().do(("deed", moment, name, ("request", moment, "ann", n + 1)))
                    self.check_same([answer.word, answer.ready], ["no", n])
                self.check_same(world.do(("deed", start, name, ("request", start, "ann", n))).word, "yes")
                self.check_same(world.copy().do(("deed", start + 9, name, ("request", start + 9, "ann", 1))).word, "no")
            self.check_same(world.fullest("p"), (5, 3))
            self.check_same(world.over(), [])

    def test_quiet_time(self):
        """Far behind all ends one tick a server brings all chips home, and a second one changes nothing."""
        for seed in range(24):
            house = wide_house(random.Random(seed))
            runner = Runner(house, seed, CLOCKS[seed % 4])
            for _ in range(150):
                runner.step()
            world = runner.world
            late = 5000
            for name in house.servers():
                if world.server_of(name).fallen:
                    # What was lent to memory rests from the waking on, so this is ahead of the quiet time.
                    world.do(("wake", 2500, name, 2500))
            for name in house.servers():
                world.do(("deed", late, name, ("tick", late)))
            for rule in house.rules():
                tree = house.tree_of(rule)
                for name in tree.servers():
                    purse = world.server_of(name).purse(rule)
                    home = tree.rule.chips if name == tree.servers()[0] else 0
                    self.check_same([purse.ready_chips, len(purse), purse.remembered()], [home, home, {}])
            ahead = [quiet(house, world.server_of(name)) for name in house.servers()]
            for name in house.servers():
                self.check_same(world.do(("deed", late, name, ("tick", late))), [])
            self.check_same([quiet(house, world.server_of(name)) for name in house.servers()], ahead)


def quiet(house, server):
    """All that a server tells but its books, which have each tick."""
    found = [server.syncs, server.disk().table(), server.disk().areas(), server.disk().unsynced()]
    for rule in house.rules():
        if server.name in house.tree_of(rule).servers():
            found.append(facts(server.purse(rule)))
    for room in house.rooms(server.name):
        found += [server.waiting_in(room), [server.mark_in(room, customer) for customer in house.customers()]]
    return found


if __name__ == "__main__":
    unittest.main()
