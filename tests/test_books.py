"""Books: those of runs pass, and each fault has its word and its place."""

import random
import unittest

from running import CLOCKS, Runner, lone_house, wide_house
from support import NOT_NUMBERS, Case, facts

from surelet.books import book_uses, judge_books
from surelet.deeds import perform
from surelet.errors import UnknownName
from surelet.houses import House
from surelet.purses import Purse
from surelet.rests import Window
from surelet.rules import Rule, is_within
from surelet.trees import Place, Tree
from surelet.worlds import World

TREE = Tree(Rule("r", 5, Window(10)), Place("a", "sa"), Place("b", "sb", "a"), Place("m", "sb", "b", memory=True),
            Place("c", "sc", "b"))
HOUSE = House(
    Tree(Rule("q", 2, Window(5)), Place("a", "sb")), TREE,
    servers=[("sa", 1), ("sb", 2), ("sc", 0), ("sd", 0)], customers=[("ann", None, 1, ["q", "r"])], rooms=[("desk", "sb")],
)
LEND = ("lend", "r", "b", 1, 3, 40)
BOOKS = {
    "sa": [("tick", 0), ("lend", 0, "r", "a", "b", 3, 40, None), ("prolong", 5, "r", 1, 50),
           ("receive", 9, ("back", "r", "b", 1, 1, ((0, 1),)))],
    "sb": [("receive", 1, LEND), ("use", 2, "r", "b", 1, 1), ("lend", 2, "r", "b", "m", 1, None, None),
           ("recall", 3, "r", "m", 1), ("receive", 6, ("extend", "r", "b", 1, 50)), ("give", 7, "r", "b", 1, [(0, 1)]),
           ("lend", 7, "r", "b", "c", 1, 30, 1)],
    "sc": [("receive", 8, ("lend", "r", "c", 2, 1, 30)), ("receive", 8, ("lend", "r", "c", 2, 1, 30)),
           ("use", 9, "r", "c", 1, None)],
}


def books_with(server, at, *items):
    """The good books with these items instead of one item of a server."""
    books = {name: list(book) for name, book in BOOKS.items()}
    books[server][at:at + 1] = items
    return books


class Judging(Case):
    def judged(self, books, wanted, house=HOUSE, rule="r"):
        copy = {name: list(book) for name, book in books.items()}
        self.check_same(judge_books(house, rule, books), wanted)
        self.check_same({name: list(book) for name, book in books.items()}, copy)

    def test_good_books(self):
        self.judged(BOOKS, None)
        self.assertIsNone(judge_books(house=HOUSE, rule="r", books=BOOKS))
        self.judged({name: tuple(book) for name, book in BOOKS.items()}, None)
        self.judged({name: BOOKS[name] for name in ("sc", "sa", "sb")}, None)
        self.judged({"sd": [], **BOOKS}, None)
        self.judged({}, None)
        self.judged({"sa": BOOKS["sa"][:3]}, None)
        self.judged({}, None, rule="q")
        self.judged({"sb": [("tick", 0), ("use", 1, "q", "a", 2, None)], "sa": []}, None, rule="q")

    def test_unknown_rules_and_servers(self):
        for rule in NOT_NUMBERS + [5, "zz", "a"]:
            self.check_error(UnknownName, [rule], judge_books, HOUSE, rule, {"zz": None})
        for keys, least in ((["zz"], "zz"), (["zz", "sa", "aa", "ab"], "aa"), (["", "se"], ""), (["se", "s", "zz"], "s"),
                            (["Sa", "sa0"], "Sa"), (["sa", "r"], "r")):
            for order in (keys, keys[::-1]):
                books = {key: [None] for key in order}
                self.check_error(UnknownName, [least], judge_books, HOUSE, "r", books)
        for keys, least in (([5, "zz"], 5), (["zz", None, 7, 6], 6), ([5], 5), ([30, 4], 4), ([None], None), ([("sa",)], ("sa",)), ([True], True)):
            for order in (keys, keys[::-1]):
                self.check_error(UnknownName, [least], judge_books, HOUSE, "r", {key: [] for key in order})

    def test_items_of_any_kind(self):
        values = [value for value in NOT_NUMBERS] + [5, "tick", ("tick",), ["tick", 3], ("tick", True), ("tick", 3, 3)]
        values += [("request", 3, "ann", 1), ("enter", 3, "desk", "ann", 1, None), ("carry", 3, 0), ("settle", 3), LEND,
                   ("use", 2, "q", "b", 1, 1), ("lend", 2, "q", "b", "m", 1, None, None), ("prolong", 5, "q", 1, 50),
                   ("give", 7, "q", "b", 1, ((0, 1),)), ("recall", 3, "q", "m", 1), ("receive", 1, None),
                   ("receive", 1, ("lend", "q", "b", 1, 3, 40)), ("receive", 1, ("back", "q", "b", 1, 1, ((0, 1),))),
                   ("receive", 1, LEND[:-1]), ("receive", 1, list(LEND)), ("use", 2, "r", "b", None, 1),
                   ("use", 2, "r", None, 1, 1), ("deed", 0, "sb", ("tick", 0))]
        for value in values:
            for name in ("sa", "sb", "sc"):
                for at in range(len(BOOKS[name])):
                    self.judged(books_with(name, at, value, BOOKS[name][at]), (name, at, "form"))

    def test_deeds_that_a_purse_refuses(self):
        for name, at, value in (
            ("sb", 0, ("use", 1, "r", "b", 1, None)), ("sb", 1, ("use", 2, "r", "b", 4, 1)), ("sb", 1, ("tick", -3)),
            ("sb", 2, ("use", 2, "r", "b", 1, 9)), ("sb", 3, ("recall", 3, "r", "b", 1)), ("sb", 5, ("give", 7, "r", "b", 1, None)),
            ("sb", 5, ("give", 7, "r", "b", 1, [[0, 1]])), ("sb", 6, ("lend", 7, "r", "b", "c", 1, 51, 1)),
            ("sb", 6, ("lend", 7, "r", "b", "zz", 1, 30, 1)), ("sa", 2, ("prolong", 5, "r", 1, 40)),
            ("sa", 2, ("prolong", 5, "r", 2, 90)), ("sa", 3, ("receive", 9, LEND)),
            ("sc", 0, ("receive", 8, ("lend", "r", "c", 2, 0, 30))), ("sc", 2, ("use", 9, "r", "c", 2, None)),
            ("sc", 2, ("tick", 7)), ("sb", 6, ("receive", 9, ("extend", "r", "b", 0, 50))),
            ("sa", 3, ("receive", 9, ("back", "r", "b", 1, 1, ((0, 0),)))),
        ):
            self.judged(books_with(name, at, value), (name, at, "deed"))
            self.judged(books_with(name, at, value, ("use", 99, "r", "zz", 1, None), None), (name, at, "deed"))

    def test_letters_that_nobody_sent(self):
        for name, at, letter in (
            ("sb", 0, ("lend", "r", "b", 1, 3, 41)), ("sb", 0, ("lend", "r", "b", 1, 4, 40)),
            ("sb", 0, ("lend", "r", "b", 2, 3, 40)), ("sb", 4, ("extend", "r", "b", 1, 49)),
            ("sb", 4, ("extend", "r", "b", 2, 50)), ("sa", 3, ("back", "r", "b", 1, 2, ((0, 1),))),
            ("sa", 3, ("back", "r", "b", 1, 1, ((0, 1), (9, 1)))), ("sa", 3, ("back", "r", "c", 1, 1, ((0, 1),))),
        ):
            reading = BOOKS[name][at][1]
            more = [("receive", reading, letter)]
            # It is put in besides the right one, so that the purse goes on as before.
            if letter[0] == "lend":
                self.judged(books_with(name, at, BOOKS[name][at], *more), (name, at + 1, "letter"))
            elif letter[2] == "c":
                self.judged(books_with(name, at, BOOKS[name][at], *more), (name, at + 1, "deed"))
            else:
                self.judged(books_with(name, at, BOOKS[name][at], *more), (name, at + 1, "letter"))
        for name in ("sa", "sb"):
            self.judged({"sc": BOOKS["sc"], name: BOOKS[name]}, {"sa": ("sa", 3, "letter"), "sb": ("sb", 0, "letter")}[name])
        self.judged({"sc": BOOKS["sc"]}, ("sc", 0, "letter"))

    def test_a_letter_that_is_equal_to_a_sent_one(self):
        again = ("receive", 9, ("lend", "r", "b", 1, 3, 40))
        self.judged(books_with("sb", 6, BOOKS["sb"][6], again, again), None)
        early = {"sa": BOOKS["sa"][1:2], "sb": [("receive", 0, tuple(list(LEND)))]}
        self.judged(early, None)

    def test_servers_without_a_place(self):
        self.judged({**BOOKS, "sd": [("tick", 0)]}, ("sd", 0, "form"))
        self.judged({**BOOKS, "sd": [None, None]}, ("sd", 0, "form"))
        self.judged({"sa": [("tick", 0)], "sb": []}, ("sa", 0, "form"), rule="q")

    def test_the_first_fault(self):
        """Words stand in the order of servers and indexes; letters behind all others."""
        form, refused, letter = None, ("use", 8, "r", "zz", 1, None), ("receive", 8, ("lend", "r", "b", 7, 1, 60))
        for items, wanted in (
            (([], [], [form]), ("sc", 3, "form")), (([refused], [form], []), ("sa", 4, "deed")),
            (([], [refused, form], [form]), ("sb", 7, "deed")), (([], [form, refused], [refused]), ("sb", 7, "form")),
            (([], [letter, refused], []), ("sb", 8, "deed")), (([], [letter], [form]), ("sc", 3, "form")),
            (([], [letter], [refused]), ("sc", 3, "deed")), (([], [letter, letter], []), ("sb", 7, "letter")),
        ):
            books = {}
            for name, more in zip(("sa", "sb", "sc"), items):
                books[name] = BOOKS[name] + more
            self.judged(books, wanted)
            self.judged({name: books[name] for name in ("sc", "sb", "sa")}, wanted)
        letters = books_with("sb", 0, ("receive", 1, LEND), ("receive", 1, ("lend", "r", "b", 8, 1, 60)))
        letters["sa"] = BOOKS["sa"] + [("receive", 9, ("back", "r", "b", 1, 7, ((0, 1),)))]
        self.judged(letters, ("sa", 4, "letter"))

    def test_books_may_be_kept_and_judged_again(self):
        books = {name: list(book) for name, book in BOOKS.items()}
        for _ in range(2):
            self.judged(books, None)
        # A give with a list of parts sends a letter with a tuple.
        self.assertIsInstance(books["sb"][5][5], list)


class Uses(Case):
    def test_the_uses_of_a_book(self):
        self.check_same(book_uses(BOOKS["sb"]), [(1, 1)])
        self.check_same(book_uses(book=tuple(BOOKS["sc"])), [(2, 1)])
        self.check_same([book_uses([]), book_uses(BOOKS["sa"])], [[], []])
        deeds = [("use", 1, "r", "a", 3, None), ("tick", 2), ("use", 2, "r", "a", 2, 0), ("use", 2, "q", "b", 1, None)]
        self.check_same(book_uses(deeds), [(0, 3), (2, 2), (3, 1)])


class Runs(Case):
    def test_books_of_runs(self):
        """The book of each server and rule leads a new purse to where the server's is; all books pass."""
        words = {}
        for seed in range(24):
            chance = random.Random(seed)
            house = (wide_house, lone_house)[seed % 2](chance)
            runner = Runner(house, seed, CLOCKS[seed % 4], falls=0)
            for _ in range(150):
                runner.step()
            for rule in house.rules():
                tree, books, uses = house.tree_of(rule), {}, 0
                for name in chance.sample(house.servers(), 4):
                    server = runner.world.server_of(name)
                    book = server.book(rule)
                    if name not in tree.servers():
                        self.check_same(book, [])
                        continue
                    purse = Purse(tree, name, house.error_of(name))
                    for deed in book:
                        perform(purse, deed)
                        words[deed[0]] = words.get(deed[0], 0) + 1
                    self.check_same(facts(purse), facts(server.purse(rule)))
                    books[name] = book
                    uses += sum(n for _, n in book_uses(book))
                self.check_same(uses, sum(n for _, n in runner.world.uses(rule)))
                self.assertIsNone(judge_books(house, rule, books))
                none = {name: [] for name in house.servers() if name not in tree.servers()}
                self.assertIsNone(judge_books(house, rule, {**none, **books}))
        for word in ("tick", "use", "lend", "prolong", "give", "recall", "receive"):
            self.assertGreater(words.get(word, 0), 20, word)

    def test_requests_rooms_and_ticks_as_ticks_and_uses(self):
        world = World(HOUSE)
        for event in (
            ("deed", 0, "sa", ("lend", 0, "r", "a", "b", 2, 40, None)), ("deed", 0, "sb", ("carry", 0, 0)),
            ("deed", 1, "sb", ("lend", 1, "r", "b", "m", 1, None, None)), ("deed", 2, "sb", ("request", 2, "ann", 2)),
            ("deed", 3, "sb", ("enter", 3, "desk", "ann", 1, 90)), ("deed", 20, "sb", ("tick", 20)),
        ):
            world.do(event)
        self.check_same(world.server_of("sb").book("r"), [
            ("receive", 0, ("lend", "r", "b", 1, 2, 40)), ("lend", 1, "r", "b", "m", 1, None, None), ("tick", 2),
            ("use", 2, "r", "m", 1, 1), ("use", 2, "r", "b", 1, 1), ("tick", 3), ("tick", 20), ("use", 20, "r", "m", 1, 1),
        ])
        self.check_same(world.server_of("sb").book("q"), [
            ("tick", 0), ("tick", 1), ("tick", 2), ("use", 2, "q", "a", 2, 0), ("tick", 3), ("tick", 20),
            ("use", 20, "q", "a", 1, 0),
        ])
        for rule in ("q", "r"):
            books = {name: world.server_of(name).book(rule) for name in HOUSE.servers()}
            self.assertIsNone(judge_books(HOUSE, rule, books))

    def test_passing_books_of_whomever_are_within_the_rule(self):
        """Books that are changed at random and still pass have uses within the rule, at the moments that fit."""
        passed = 0
        for seed in range(60):
            chance = random.Random(seed)
            tree = Tree(Rule("p", chance.randint(1, 3), Window(chance.choice([4, 10]))), Place("a", "sa"),
                        Place("b", "sb", "a"), Place("c", "sc", "b"))
            house = House(tree, servers=[("sa", 0), ("sb", 0), ("sc", 0)])
            books = self.random_books(chance, house, tree)
            if judge_books(house, "p", books) is None:
                passed += 1
                # With clocks that do not err the moments are the readings.
                uses = [(deed[1], deed[4]) for book in books.values() for deed in book if deed[0] == "use"]
                self.assertTrue(is_within(tree.rule, uses), seed)
        self.assertGreater(passed, 20)

    def random_books(self, chance, house, tree):
        """Books that purses allow, without a server or a world, with letters that may come late or twice."""
        purses = {name: Purse(tree, name, 0) for name in tree.servers()}
        books, letters = {name: [] for name in purses}, []
        for moment in range(60):
            name = chance.choice(tree.servers())
            place = tree.top(name)
            deeds = [("tick", moment), ("use", moment, "p", place, chance.randint(1, 2), None)]
            deeds += [("lend", moment, "p", place, child, 1, moment + chance.randint(1, 30), None)
                      for child in tree.children(place)]
            deeds += [("give", moment, "p", place, lot[0], ((0, 1),)) for lot in purses[name].lots(place)]
            deeds += [("receive", moment, letter) for letter in letters] * 2
            deed = chance.choice(deeds)
            try:
                answer = perform(purses[name], deed)
            except Exception:
                continue
            books[name].append(deed)
            if deed[0] in ("lend", "give"):
                letters.append(answer[1] if deed[0] == "lend" else answer)
        return books


if __name__ == "__main__":
    unittest.main()
