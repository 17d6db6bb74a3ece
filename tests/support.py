"""What the tests share."""

import unittest

from surelet.houses import House
from surelet.rests import Days, Window
from surelet.rules import Rule
from surelet.trees import Place, Tree

RULE = Rule("r", 2, Window(10))
TREE = Tree(RULE, Place("a", "sa"))
BOOLEANS = [True, False]
OTHERS = [
    None,
    "",
    "a",
    "A",
    "1",
    "window 5",
    1.5,
    (),
    (1,),
    (True, 1),
    ("a", 1),
    [],
    [1, 2],
    ["a"],
    [[1], [2]],
    {},
    {"a": 1},
    {"a": [{"b": (1, [2])}]},
    Window(5),
    Days([3, 7], 5),
    [Window(5)],
    RULE,
    Place("a", "sa"),
    TREE,
    House(TREE, servers=[("sa", 0)]),
    {"a": (RULE, [TREE])},
]
NOT_NUMBERS = BOOLEANS + OTHERS


def same(one, other):
    """Whether two values are equal and of one kind, so that True is not 1; the order of keys counts, too."""
    if type(one) is not type(other):
        return False
    if isinstance(one, (list, tuple)):
        return len(one) == len(other) and all(same(a, b) for a, b in zip(one, other))
    if isinstance(one, dict):
        return same(list(one.items()), list(other.items()))
    return one == other


class Case(unittest.TestCase):
    """A test case that looks at errors and values with their kinds."""

    def check_error(self, error, values, call, *args, **named):
        """The call raises just this class, with these values as its attributes in order."""
        try:
            got = call(*args, **named)
        except Exception as caught:
            self.assertIs(type(caught), error, f"{caught!r} from {args!r} {named!r}")
            names = [name for name in vars(caught) if name != "code"]
            told = [getattr(caught, name) for name in names]
            self.assertTrue(same(told, list(values)), f"{told!r} instead of {values!r}")
            self.assertEqual(caught.code, error.__name__)
            return
        self.fail(f"no error, but {got!r} from {args!r} {named!r}")

    def check_same(self, got, wanted):
        """Equal values of one kind."""
        self.assertTrue(same(got, wanted), f"{got!r} instead of {wanted!r}")


def facts(purse):
    """All that a purse tells, in one list."""
    places = [place.name for place in purse.tree.places() if place.server == purse.server]
    told = [purse.tree, purse.server, purse.error, purse.past, purse.last_reading, purse.ready_chips, len(purse)]
    told += [bool(purse), purse.remembered(), purse.table(), purse.standing(), purse.payable(), purse.payable(["ann"])]
    for place in places:
        told += [purse.lots(place), purse.usable(place)]
        told += [purse.lot(place, lot[0]) for lot in purse.lots(place)]
    return told


class PurseCase(Case):
    """A test case that looks at what a refused operation leaves."""

    def refused(self, purse, error, values, call, *args, **named):
        """The call on the purse raises this error, and nothing of the purse is changed."""
        ahead = facts(purse)
        self.check_error(error, values, call, *args, **named)
        self.check_same(facts(purse), ahead)
