"""Purses of the package beside the chip by chip ones, and random operations for both."""

import random

from chips import Chips, Wrong, restored
from support import same

from surelet.errors import Missing, NotNow, SureletError
from surelet.purses import Purse
from surelet.rests import Days, Later, Next, Sooner, Window
from surelet.rules import Rule
from surelet.trees import Place, Tree

WRONG_VALUES = [None, True, False, "", "a", "zz", [], {}, [1], {"a": 1}, (1,), 0, -1, 7, 1000, "1", ((0, 1),), Window(3)]
OPERATIONS = {
    "settle": lambda purse, *told: purse.settle(*told),
    "use": lambda purse, reading, place, n, lot: purse.use(reading, place, n, lot=lot),
    "pay": lambda purse, *told: purse.pay(*told),
    "lend": lambda purse, reading, place, child, n, until, lot: purse.lend(
        reading, place, child, n, until=until, lot=lot),
    "prolong": lambda purse, *told: purse.prolong(*told),
    "give": lambda purse, *told: purse.give_back(*told),
    "recall": lambda purse, *told: purse.recall(*told),
    "receive": lambda purse, *told: purse.receive(*told),
}
PATHS = [(), ("ann",), ("ann", "firm"), ("firm",), ("bob", "firm"), ("zoe",)]


def trees():
    """Trees with drawers, memory, long chains on one server and several servers."""
    rests = [Window(10), Days([3, 7, 20], 5), Next(Window(4), Days([], 6)), Later(Window(2), Days([9], 8)),
             Sooner(Window(12), Days([], 15))]
    return [
        Tree(Rule("r", 20, rests[0]), Place("a", "sa"), Place("b", "sb", "a"), Place("m", "sb", "b", memory=True),
             Place("c", "sb", "b", customer="ann"), Place("x", "sc", "c"), Place("n", "sb", "c", memory=True)),
        Tree(Rule("r", 15, rests[1]), Place("a", "sa"), Place("c", "sa", "a", customer="firm"), Place("d", "sa", "c"),
             Place("b", "sb", "d"), Place("m", "sa", "d", memory=True, customer="ann"), Place("e", "sc", "a")),
        Tree(Rule("r", 30, rests[2]), Place("rest", "sa"), Place("loan", "sa", "rest"), Place("lot", "sb", "loan"),
             Place("p", "sb", "lot"), Place("q", "sb", "p", customer="bob"), Place("s", "sb", "q", memory=True),
             Place("t", "sc", "q"), Place("u", "sc", "t"), Place("v", "sb", "lot", customer="firm")),
        Tree(Rule("r", 8, rests[3]), Place("a", "sa"), Place("b", "sb", "a"), Place("c", "sc", "b")),
        Tree(Rule("r", 12, rests[4]), Place("a", "sa"), Place("b", "sa", "a"), Place("c", "sa", "b"),
             Place("x", "sb", "c"), Place("y", "sb", "x"), Place("m", "sa", "c", memory=True)),
    ]


def values_of(error):
    """The values of an error of the package, in order."""
    return tuple(value for key, value in vars(error).items() if key != "code")


def told(call, *args):
    """What a call returns, or what error it raises."""
    try:
        return ("returned", call(*args))
    except Wrong as wrong:
        return (wrong.word, *wrong.values)
    except (SureletError, Missing, NotNow) as error:
        return (error.code, *values_of(error))


class Twin:
    """A purse and its chip by chip twin."""

    def __init__(self, tree, server, error):
        self.purse = Purse(tree, server, error)
        self.chips = Chips(tree, server, error)

    def do(self, word, *items):
        """Does an operation on both; returns what the purse told, and the same of the twin."""
        tried = self.chips.copy()
        wanted = told(getattr(tried, word), *items)
        got = told(OPERATIONS[word], self.purse, *items)
        if wanted[0] == "returned":
            self.chips = tried
        return got, wanted

    def wake(self, reading):
        """Puts both through a table."""
        table = self.purse.table()
        tree, server, error = self.purse.tree, self.purse.server, self.purse.error
        self.purse = Purse.restored(tree, server, error, {"rr past": "900", "q lot a 0": "- - 1 0", **table}, reading)
        self.chips = restored(tree, server, error, table, reading)

    def shown(self):
        """All that both tell, as two lists."""
        purse, chips = self.purse, self.chips
        living = chips.living()
        got = [purse.lots(place) for place in chips.here]
        got += [purse.past, purse.last_reading, purse.ready_chips, len(purse), purse.remembered(), purse.table()]
        got += [purse.standing(), [purse.usable(place) for place in chips.here], [purse.payable(p) for p in PATHS]]
        keys = sorted(chips.lots)
        wanted = [chips.shown_lots(place) for place in chips.here]
        wanted += [chips.low, chips.reading, sum(len(chips.ready(key)) for key in keys), len(chips.chips)]
        wanted += [dict(sorted(chips.had.items())), dict(sorted(chips.table().items())), chips.standing()]
        wanted += [[sum(len(chips.ready(key)) for key in living if key[0] == place) for place in chips.here]]
        wanted += [[sum(len(chips.ready(key)) for key in chips.payers(path)) for path in PATHS]]
        return got, wanted


class Chance:
    """Random operations that mostly make sense for a purse."""

    def __init__(self, seed):
        self.random = random.Random(seed)

    def pick(self, values, wrong=0.04):
        """One of the values, or now and then a wrong one."""
        values = list(values)
        if not values or self.random.random() < wrong:
            return self.random.choice(WRONG_VALUES)
        return self.random.choice(values)

    def few(self, most):
        return self.random.randint(1, max(1, most))

    def reading(self, moment, error):
        if self.random.random() < 0.03:
            return moment - self.random.randint(0, 3 * error + 9)
        return moment + self.random.randint(-error, error)

    def place(self, chips):
        """A place of the server, mostly one that has lots."""
        full = [key[0] for key in chips.lots]
        return self.pick(full if full and self.random.random() < 0.8 else chips.here, 0.02)

    def lot(self, chips, place):
        """None, or mostly a lot of the place."""
        if self.random.random() < 0.6:
            return None
        return self.pick([key[1] for key in chips.lots if key[0] == place], 0.05)

    def until(self, reading, error):
        return self.pick([reading + error + self.random.randint(0, 4), reading + self.random.randint(10, 60),
                          reading + self.random.randint(30, 90), reading - error + 1, reading - error], 0.03)

    def key(self, keys, chips):
        """The place and the number of one of some lots, or now and then of any lot or none."""
        if keys and self.random.random() < 0.9:
            return self.random.choice(keys)
        place = self.place(chips)
        return place, self.pick([key[1] for key in chips.lots if key[0] == place], 0.1)

    def parts(self, chips, place, lot):
        held = next((chips.shown(key) for key in chips.lots if same(key, (place, lot))), None)
        if held is None or self.random.random() < 0.05:
            return self.pick([[(0, 1)], ((0, 1), (0, 1)), ((3, 1), (2, 1)), (), [[0, 1]], ((0, 0),), ((-1, 1),)])
        rows = ([(0, held[3])] if held[3] else []) + list(held[4])
        some = [(f, self.few(n)) for f, n in rows if self.random.random() < 0.7]
        return some if self.random.random() < 0.5 else tuple(some)

    def words(self, chips, letters):
        """The words of operations, those more often that can do something."""
        words = ["settle", "use", "use", "pay", "lend", "lend", "receive"]
        words.append(self.random.choice(["prolong", "give", "recall"]))
        if any(chips.ready(key) and chips.tree.children(key[0]) for key in chips.lots):
            words += ["lend"] * 6
        if any(chips.good_letter(letter) for letter in letters):
            words += ["receive"] * 10
        words += ["prolong"] * len(chips.loans)
        words += ["give"] * len([key for key in chips.lots if key[1] > 0])
        words += ["recall"] * len([lot for lot in chips.lots.values() if lot["from"]])
        return words

    def operation(self, chips, moment, letters):
        """The word and the arguments of an operation."""
        random, tree = self.random, chips.tree
        reading = self.reading(moment, chips.error)
        place = self.place(chips)
        word = random.choice(self.words(chips, letters))
        if word == "settle":
            return word, reading
        if word == "use":
            return word, reading, place, self.pick([1, 1, 1, 2]), self.lot(chips, place)
        if word == "pay":
            return word, reading, random.choice(PATHS), self.pick([1, 1, 2, 3])
        if word == "lend":
            lenders = [key[0] for key in chips.lots if chips.ready(key) and tree.children(key[0])]
            place = self.pick(lenders, 0.02) if lenders else place
            children = tree.children(place) if isinstance(place, str) and place in chips.here else []
            until = random.choice([None, self.until(reading, chips.error), self.until(reading, chips.error)])
            return word, reading, place, self.pick(children), self.pick([1, 1, 2, 3]), until, self.lot(chips, place)
        if word == "prolong":
            return word, reading, self.pick(chips.loans), self.until(reading + 5, chips.error)
        if word == "give":
            place, lot = self.key([key for key in chips.lots if key[1] > 0], chips)
            return word, reading, place, lot, self.parts(chips, place, lot)
        if word == "recall":
            return word, reading, *self.key([key for key, lot in chips.lots.items() if lot["from"]], chips)
        return word, reading, self.letter(chips, letters)

    def letter(self, chips, letters):
        """A letter, mostly one for this server, and perhaps an old or a changed one."""
        mine = [letter for letter in letters if chips.good_letter(letter)]
        if mine and self.random.random() < 0.5:
            mine = mine[-6:]
        letter = self.pick(mine if mine and self.random.random() < 0.9 else letters)
        if isinstance(letter, tuple) and letter and self.random.random() < 0.08:
            items = list(letter)
            items[self.random.randrange(len(items))] = self.random.choice(WRONG_VALUES)
            return tuple(items)
        return letter


def sent_by(word, answer):
    """The letter that an operation sent, or None."""
    if word == "lend":
        return answer[1]
    return answer if word in ("prolong", "give") else None
