"""Rooms: joining, heads, serving, leaving, marks, levels and the scale."""

import inspect
import math
import random
import unittest

from support import NOT_NUMBERS, Case

from surelet.errors import InvalidNumber, TooMany, UnknownName
from surelet.rooms import Room

WEIGHTS = {"zoe": 4, "ann": 1, "bob": 2}


def shown(room):
    """All that a room tells."""
    return [room.waiting(), room.head, room.level, room.scale, len(room), room.mark_of("ann"), room.mark_of("bob"),
            room.mark_of("zoe")]


class Rooms(Case):
    def refused(self, room, error, values, call, *args):
        """The call raises this error, and nothing of the room is changed."""
        ahead = shown(room)
        self.check_error(error, values, call, *args)
        self.check_same(shown(room), ahead)

    def test_a_new_room(self):
        room = Room(WEIGHTS)
        self.check_same(shown(room), [[], None, 0, 4, 0, 0, 0, 0])
        self.assertIs(bool(room), True)
        self.check_same(shown(Room(weights=WEIGHTS)), shown(room))
        for word in ("head", "level", "scale"):
            self.assertIsInstance(inspect.getattr_static(Room, word), property)

    def test_the_scale(self):
        for weights in ((), (1,), (12,), (2, 3), (4, 6, 9), tuple(range(1, 13))):
            room = Room({f"c{at}": weight for at, weight in enumerate(weights)})
            self.check_same(room.scale, math.lcm(*weights))

    def test_the_example(self):
        room = Room({"ann": 1, "bob": 2})
        self.check_same(room.scale, 2)
        self.assertIsNone(room.join("bob", 3))
        room.join("ann", 3)
        self.check_same(room.head, ("ann", 3, None))
        self.check_same(room.serve(), ("ann", 3))
        self.check_same([room.level, room.mark_of("ann"), room.mark_of("bob")], [0, 6, 0])
        self.check_same(room.serve(), ("bob", 3))
        self.check_same([room.level, room.mark_of("ann"), room.mark_of("bob"), room.head], [0, 6, 3, None])

    def test_rows_of_one_customer(self):
        room = Room(WEIGHTS)
        room.join("bob", 5, 9)
        room.join(customer="zoe", cost=1, until=None)
        room.join("bob", 1, 4)
        room.join("bob", 5, 9)
        self.check_same(room.waiting(), [("bob", 5, 9), ("zoe", 1, None), ("bob", 1, 4), ("bob", 5, 9)])
        self.check_same([len(room), room.head], [4, ("bob", 5, 9)])
        room.serve()
        self.check_same(room.waiting(), [("zoe", 1, None), ("bob", 1, 4), ("bob", 5, 9)])
        self.check_same([room.head, room.mark_of("bob")], [("zoe", 1, None), 10])
        self.check_same([room.serve(), room.serve(), room.head], [("zoe", 1), ("bob", 1), ("bob", 5, 9)])

    def test_the_least_mark_then_the_least_name(self):
        room = Room({"a": 1, "a1": 1, "b": 1})
        for customer in ("b", "a1", "a", "b", "a1", "a"):
            room.join(customer, 2)
        self.check_same([room.serve()[0] for _ in range(6)], ["a", "a1", "b", "a", "a1", "b"])
        self.check_same([room.level, room.mark_of("a"), room.mark_of("b")], [2, 4, 4])

    def test_a_customer_that_joins_behind_the_level(self):
        room = Room(WEIGHTS)
        for _ in range(3):
            room.join("ann", 2)
        for level in (0, 8, 16):
            room.serve()
            self.check_same(room.level, level)
        self.check_same([room.mark_of("ann"), room.mark_of("bob")], [24, 0])
        room.join("bob", 1)
        self.check_same(room.mark_of("bob"), 16)
        room.join("bob", 7)
        self.check_same(room.mark_of("bob"), 16)
        room.join("ann", 1)
        self.check_same(room.mark_of("ann"), 24)
        room.serve()
        self.check_same([room.level, room.mark_of("bob")], [16, 18])

    def test_a_customer_that_waits_keeps_its_mark(self):
        room = Room(WEIGHTS)
        room.join("bob", 1)
        for _ in range(2):
            room.join("ann", 1)
        room.serve()
        room.serve()
        room.serve()
        self.check_same([room.level, room.mark_of("ann"), room.mark_of("bob")], [4, 8, 2])
        room.join("bob", 1)
        self.check_same(room.mark_of("bob"), 4)

    def test_leaving(self):
        for reading, gone in ((3, []), (4, []), (5, ["bob", "ann"]), (9, ["bob", "ann"]),
                              (10, ["bob", "bob", "ann"]), (99, ["bob", "bob", "ann"])):
            room = Room(WEIGHTS)
            for customer, until in (("bob", 4), ("zoe", None), ("bob", 9), ("ann", 4)):
                room.join(customer, 2, until)
            room.join("zoe", 1)
            marks = [room.level, room.mark_of("ann"), room.mark_of("bob"), room.mark_of("zoe")]
            self.check_same(room.leave(reading=reading), gone)
            self.check_same(len(room), 5 - len(gone))
            self.check_same([room.level, room.mark_of("ann"), room.mark_of("bob"), room.mark_of("zoe")], marks)
        self.check_same(room.waiting(), [("zoe", 2, None), ("zoe", 1, None)])

    def test_leaving_keeps_the_order(self):
        room = Room(WEIGHTS)
        for customer, until in (("bob", 4), ("zoe", 1), ("ann", 2), ("bob", None)):
            room.join(customer, 2, until)
        self.check_same(room.leave(3), ["zoe", "ann"])
        self.check_same(room.waiting(), [("bob", 2, 4), ("bob", 2, None)])
        self.check_same([room.leave(5), room.head], [["bob"], ("bob", 2, None)])

    def test_forty_requests(self):
        room = Room(WEIGHTS)
        for at in range(40):
            room.join("ann", 1, at)
        self.check_same(len(room), 40)
        self.refused(room, TooMany, ["waiting", 41], room.join, "ann", 1)
        self.refused(room, TooMany, ["waiting", 41], room.join, "bob", 1)
        room.leave(1)
        room.join("bob", 1)
        self.refused(room, TooMany, ["waiting", 41], room.join, "bob", 1)
        room.serve()
        room.join("bob", 1)

    def test_wrong_customers_and_costs(self):
        room = Room(WEIGHTS)
        for _ in range(40):
            room.join("ann", 1)
        for customer in NOT_NUMBERS + ["an", "anna", 5]:
            self.refused(room, UnknownName, [customer], room.join, customer, 0)
            self.refused(room, UnknownName, [customer], room.mark_of, customer)
        for cost in NOT_NUMBERS + [0, -1, 1001]:
            self.refused(room, InvalidNumber, [cost], room.join, "ann", cost)
        for cost in (1, 1000):
            other = Room(WEIGHTS)
            other.join("ann", cost)
            self.check_same(other.serve(), ("ann", cost))

    def test_nobody_waits(self):
        room = Room(WEIGHTS)
        self.refused(room, UnknownName, [None], room.serve)
        self.refused(Room({"ann": 1, "bob": 1, "zoe": 1}), UnknownName, ["eve"], room.join, "eve", 1)
        self.check_error(UnknownName, ["ann"], Room({}).join, "ann", 1)

    def test_what_is_passed_and_told_is_copied(self):
        weights = dict(WEIGHTS)
        room = Room(weights)
        weights["ann"] = 12
        weights["eve"] = 1
        room.join("ann", 1)
        room.waiting().clear()
        self.check_same([room.scale, len(room)], [4, 1])
        room.serve()
        self.check_same(room.mark_of("ann"), 4)
        self.refused(room, UnknownName, ["eve"], room.mark_of, "eve")

    def test_a_copy_shares_nothing(self):
        room = Room(WEIGHTS)
        for customer in ("ann", "bob", "ann"):
            room.join(customer, 3, 5)
        room.serve()
        ahead = shown(room)
        other = room.copy()
        self.check_same(shown(other), ahead)
        other.serve()
        other.join("zoe", 1)
        other.leave(6)
        self.check_same(shown(room), ahead)
        again = room.copy()
        room.serve()
        again.serve()
        self.check_same(shown(room), shown(again))

    def test_marks_stay_near_each_other(self):
        """What the marks of two waiting customers grow by differs by at most the sum of their greatest growths."""
        for seed in range(20):
            chance = random.Random(seed)
            room = Room(WEIGHTS)
            most = {customer: 9 * room.scale // weight for customer, weight in WEIGHTS.items()}
            for _ in range(chance.randint(0, 9)):
                room.join(chance.choice(list(WEIGHTS)), chance.randint(1, 9))
                room.serve()
            for customer in WEIGHTS:
                room.join(customer, chance.randint(1, 9))
            start = {customer: room.mark_of(customer) for customer in WEIGHTS}
            level = room.level
            for _ in range(100):
                customer, _ = room.serve()
                room.join(customer, chance.randint(1, 9))
                grown = {customer: room.mark_of(customer) - start[customer] for customer in WEIGHTS}
                for one in WEIGHTS:
                    self.assertLessEqual(level, room.level)
                    self.assertTrue(room.level <= room.mark_of(one) <= room.level + max(most.values()))
                    for other in WEIGHTS:
                        self.assertLessEqual(abs(grown[one] - grown[other]), most[one] + most[other])
                level = room.level


if __name__ == "__main__":
    unittest.main()
