"""Worlds: told servers and disks, copies, replayed events, and events that are only tried."""

import random
import unittest

from running import CLOCKS, Runner, all_of, lone_house, shown, wide_house
from support import NOT_NUMBERS, Case
from test_worlds import HOUSE, LEND, deed, lent

from surelet.errors import (
    BadMoment, BadReading, Fallen, InvalidEvent, InvalidNumber, NoSuchLetter, NotHeld, Refused, UnknownName,
)
from surelet.worlds import World, attempt, replay


def done(world):
    """Changes all that can be changed in a world at the moment 5."""
    world.do(deed(5, "sa", "use", 5, "p", "a", 1, None))
    world.do(deed(6, "sb", "enter", 6, "desk", "bob", 3, 70))
    world.do(deed(7, "sb", "give", 7, "p", "b", 1, [(0, 1)]))
    world.do(("lose", 2))
    world.do(("fall", 8, "sc", ["kept"]))


class Copies(Case):
    def test_told_servers(self):
        world = lent()
        ahead = all_of(world)
        server = world.server_of(name="sb")
        server.use(6, "p", "b", 1)
        server.enter(6, "desk", "bob", 3, until=70)
        self.check_same(all_of(world), ahead)
        server.fall()
        world.server_of("sd").wake(6)
        self.check_same(all_of(world), ahead)
        told = world.server_of("sb")
        shown_ahead = shown(HOUSE, told)
        done(world)
        self.check_same(shown(HOUSE, told), shown_ahead)
        self.assertNotEqual(shown(HOUSE, world.server_of("sb")), shown_ahead)

    def test_disks_of_told_servers(self):
        world = lent()
        ahead = all_of(world)
        disk = world.server_of("sa").disk()
        disk.write({"p past": "77"})
        disk.check()
        disk.fall()
        self.check_same(all_of(world), ahead)
        told = world.server_of("sa").disk()
        areas = told.areas()
        done(world)
        self.check_same(told.areas(), areas)

    def test_copies(self):
        world = lent()
        copy = world.copy()
        ahead = all_of(world)
        self.assertIs(copy.house, HOUSE)
        self.check_same(all_of(copy), ahead)
        done(copy)
        self.check_same(all_of(world), ahead)
        behind = all_of(copy)
        self.assertNotEqual(behind, ahead)
        done(world)
        self.check_same(all_of(world), behind)
        world.do(deed(9, "sa", "tick", 9))
        self.check_same(all_of(copy), behind)

    def test_copies_of_copies(self):
        world = lent().copy().copy()
        self.check_same(all_of(world), all_of(lent()))


class Replays(Case):
    def test_the_same_world(self):
        world = lent()
        done(world)
        for events in (world.events(), tuple(world.events())):
            self.check_same(all_of(replay(HOUSE, events)), all_of(world))
        self.check_same(all_of(replay(house=HOUSE, events=[], rows=16)), all_of(World(HOUSE)))

    def test_rows(self):
        for rows in NOT_NUMBERS + [0, 65]:
            self.check_error(InvalidNumber, [rows], replay, HOUSE, [None], rows=rows)
        events = [deed(moment, "sa", "tick", moment) for moment in range(9)]
        self.check_same([replay(HOUSE, events, rows=rows).server_of("sa").syncs for rows in (1, 2, 64)], [6, 3, 0])

    def test_refused_events(self):
        good = lent().events()
        for bad, error in ((None, InvalidEvent), ([], InvalidEvent), (("deed",), InvalidEvent),
                           (deed(5, "zz", "tick", 5), UnknownName), (deed(4, "sa", "tick", 4), BadMoment),
                           (deed(5, "sa", "tick", 9), BadReading), (("lose", 1), NoSuchLetter),
                           (("fall", 5, "sd", ()), Fallen), (deed(5, "sa", "use", 5, "p", "a", 9, None), NotHeld)):
            events = good + [bad, deed(6, "sa", "tick", 6), bad]
            copies = list(events)
            with self.assertRaises(Refused) as caught:
                replay(HOUSE, events)
            self.check_same([caught.exception.at, caught.exception.code], [len(good), "Refused"])
            self.assertIs(type(caught.exception.__cause__), error)
            self.check_same(events, copies)
        with self.assertRaises(Refused) as caught:
            replay(HOUSE, [1, 2])
        self.check_same([caught.exception.at, caught.exception.__cause__.value], [0, 1])

    def test_random_runs(self):
        for seed in range(8):
            house = (wide_house, lone_house)[seed % 2](random.Random(seed))
            rows = random.Random(seed).choice([1, 3, 16])
            runner = Runner(house, seed, CLOCKS[seed % 4], rows=rows)
            for _ in range(120):
                runner.step()
            self.assertGreater(len(runner.world.events()), 60)
            other = replay(house, runner.world.events(), rows=rows)
            self.check_same(all_of(other), all_of(runner.world))
            self.check_same(all_of(other.copy()), all_of(runner.world))


class Attempts(Case):
    def test_the_answers(self):
        world = lent()
        ahead = all_of(world)
        events = [deed(5, "sa", "use", 5, "p", "a", 1, None), ("lose", 2), deed(6, "sb", "carry", 6, 0),
                  deed(6, "sa", "lend", 6, "p", "a", "b", 1, 60, None), deed(6, "sb", "carry", 7, 3), ("wake", 7, "sd", 9)]
        copies = list(events)
        wanted = [[("a", 0, 1)], None, False, (2, ("lend", "p", "b", 2, 1, 60)), True, None]
        self.check_same(attempt(world, events), wanted)
        self.check_same(attempt(world=world, events=tuple(events)), wanted)
        self.check_same(events, copies)
        self.check_same(all_of(world), ahead)
        self.check_same(attempt(world, []), [])
        self.check_same([world.do(event) for event in events], wanted)

    def test_refused_events(self):
        world = lent()
        ahead = all_of(world)
        good = deed(6, "sa", "use", 6, "p", "a", 1, None)
        for bad, error, values in ((None, InvalidEvent, [None]), (deed(5, "sa", "tick", 5), BadMoment, [5]),
                                   (("lose", 9), NoSuchLetter, [9]), (("fall", 6, "sd", ()), Fallen, ["sd"]),
                                   (deed(6, "sa", "use", 6, "p", "a", 4, None), NotHeld, ["a", 4])):
            self.check_error(error, values, attempt, world, [good, bad, None])
            self.check_same(all_of(world), ahead)
        self.check_same(world.letters()[0], LEND)

    def test_random_runs(self):
        for seed in range(6):
            house = wide_house(random.Random(seed))
            runner = Runner(house, seed, CLOCKS[seed % 4])
            for _ in range(60):
                runner.step()
            ahead, started = all_of(runner.world), len(runner.world.events())
            copy, answers = runner.world.copy(), []
            for _ in range(40):
                _, got = runner.step()
                answers += [got[1]] * (got[0] == "returned")
            events = runner.world.events()[started:]
            self.check_same(attempt(copy, events), answers)
            self.check_same(all_of(copy), ahead)


if __name__ == "__main__":
    unittest.main()
