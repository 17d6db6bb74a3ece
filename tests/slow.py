"""A server that does all step by step on copies, against which the servers of the package are compared."""

from chips import Wrong
from paper import Paper, read
from twins import told

from surelet.answers import Behind, No, Waits, Yes
from surelet.errors import Missing, SureletError
from surelet.purses import Purse


class Stop(Exception):
    """The first sync of a crash."""


class Halting(Paper):
    """A disk whose next sync stops what is done, if told."""

    halts = False

    def sync(self):
        if self.halts:
            raise Stop
        super().sync()


class Request:
    """A waiting request."""

    def __init__(self, room, customer, cost, until):
        self.room, self.customer, self.cost, self.until = room, customer, cost, until

    def row(self):
        return (self.customer, self.cost, self.until)


class Slow:
    """Purses of the package, a slow disk, and one list of all waiting requests."""

    def __init__(self, house, name, rows):
        self.house, self.name, self.error = house, name, house.error_of(name)
        self.trees = {rule: house.tree_of(rule) for rule in house.rules() if name in house.tree_of(rule).servers()}
        self.purses = {rule: Purse(tree, name, self.error) for rule, tree in self.trees.items()}
        self.clear()
        self.books = {rule: [] for rule in self.trees}
        self.disk = Halting(self.tables(), rows)

    def clear(self):
        self.waiting = []
        self.marks = {(room, who): 0 for room in self.house.rooms(self.name) for who in self.house.customers()}
        self.levels = {room: 0 for room in self.house.rooms(self.name)}

    def copy(self):
        other = Slow(self.house, self.name, self.disk.rows)
        other.purses = {rule: purse.copy() for rule, purse in self.purses.items()}
        other.waiting = list(self.waiting)
        other.marks, other.levels = dict(self.marks), dict(self.levels)
        other.books = self.books and {rule: list(book) for rule, book in self.books.items()}
        disk = other.disk
        disk.now, disk.durable = dict(self.disk.now), [dict(cells) for cells in self.disk.durable]
        disk.loose, disk.syncs, disk.fallen = list(self.disk.loose), self.disk.syncs, self.disk.fallen
        disk.area = self.disk.area
        return other

    def tables(self):
        found = {}
        for purse in self.purses.values():
            found.update(purse.table())
        return found

    # What is waiting.

    def in_room(self, room):
        return [request for request in self.waiting if request.room == room]

    def head(self, room):
        rows = self.in_room(room)
        turns = [(self.marks[room, request.customer], request.customer, at) for at, request in enumerate(rows)]
        return rows[min(turns)[2]] if rows else None

    def joined(self, request):
        room, who = request.room, request.customer
        if not [other for other in self.in_room(room) if other.customer == who]:
            self.marks[room, who] = max(self.marks[room, who], self.levels[room])
        self.waiting.append(request)

    def served(self, request):
        room, who = request.room, request.customer
        self.waiting = [other for other in self.waiting if other is not request]
        self.levels[room] = self.marks[room, who]
        self.marks[room, who] += request.cost * self.house.scale // self.house.weight_of(who)

    def leave(self, reading):
        self.waiting = [row for row in self.waiting if row.until is None or row.until >= reading]

    # Operations; a wrong one may leave this object spoilt, so they are called on copies.

    def check(self, reading):
        if self.disk.fallen:
            raise Wrong("Fallen", self.name)
        pasts = [purse.past for purse in self.purses.values()] + [0]
        if type(reading) is not int or reading + self.error < max(pasts):
            raise Wrong("BadReading", self.name, reading)

    def check_request(self, customer, cost):
        if customer not in self.house.customers():
            raise Wrong("UnknownName", customer)
        if type(cost) is not int or not 1 <= cost <= 1000:
            raise Wrong("InvalidNumber", cost)

    def settle(self, reading):
        for purse in self.purses.values():
            purse.settle(reading)

    def pay(self, reading, customer, cost):
        path, rules = self.house.path(customer), self.house.path_rules(customer)
        for rule in rules:
            ready = self.purses[rule].payable(path) if rule in self.purses else 0
            if ready < cost:
                return No(rule, ready, cost)
        return Yes(tuple((rule, *row) for rule in rules for row in self.purses[rule].pay(reading, path, cost)))

    def finish(self, synced):
        old, new = self.disk.now, self.tables()
        changes = {key: new.get(key) for key in {**old, **new} if old.get(key) != new.get(key)}
        self.disk.write(changes)
        if synced:
            self.disk.sync()

    def booked(self, rule, deed):
        for other in self.trees:
            self.books[other].append(deed if other == rule else ("tick", deed[1]))

    def finish_paid(self, reading, answers):
        paid = [row for answer in answers if answer.word == "yes" for row in answer.paid]
        self.booked(None, ("tick", reading))
        for rule, place, number, n in paid:
            self.books[rule].append(("use", reading, rule, place, n, number))
        self.finish(any(not self.trees[rule].place_of(place).memory for rule, place, _, _ in paid))

    def tick(self, reading):
        self.check(reading)
        served, _ = self.serve(reading)
        self.finish_paid(reading, [answer for _, _, answer in served])
        return served

    def serve(self, reading):
        """Serves all rooms; returns what a tick returns, and the requests."""
        self.settle(reading)
        self.leave(reading)
        served, requests = [], []
        for room in self.house.rooms(self.name):
            while self.head(room):
                head = self.head(room)
                answer = self.pay(reading, head.customer, head.cost)
                if answer.word == "no":
                    break
                self.served(head)
                served.append((room, head.customer, answer))
                requests.append(head)
        return served, requests

    def request(self, reading, customer, cost):
        self.check(reading)
        self.check_request(customer, cost)
        self.settle(reading)
        answer = self.pay(reading, customer, cost)
        self.finish_paid(reading, [answer])
        return answer

    def enter(self, reading, room, customer, cost, until):
        self.check(reading)
        if room not in self.house.rooms(self.name):
            raise Wrong("UnknownName", room)
        self.check_request(customer, cost)
        if until is not None and (type(until) is not int or until < reading):
            raise Wrong("Over", until)
        self.settle(reading)
        self.leave(reading)
        for other in self.waiting:
            if other.customer == customer and other.room != room:
                raise Wrong("Elsewhere", other.room)
        answer = self.entered(Request(room, customer, cost, until), reading)
        self.finish_paid(reading, [answer])
        return answer

    def entered(self, request, reading):
        rows = self.in_room(request.room)
        if not rows:
            answer = self.pay(reading, request.customer, request.cost)
            if answer.word == "yes":
                self.joined(request)
                self.served(request)
            if answer.word == "yes" or request.until is None:
                return answer
        elif request.until is None:
            return Behind(self.head(request.room).customer)
        if len(rows) == 40:
            raise Wrong("TooMany", "waiting", 41)
        self.joined(request)
        return Waits(request.room)

    def on_purse(self, deed, call):
        """An operation on one purse; returns its result and its purse's rule, when all is settled."""
        reading, rule = deed[1], deed[2]
        self.check(reading)
        if rule not in self.trees:
            raise Wrong("UnknownName", rule)
        got = told(call, self.purses[rule])
        if got[0] != "returned":
            raise Wrong(*got)
        self.settle(reading)
        self.booked(rule, deed)
        return got[1]

    def use(self, reading, rule, place, n, lot):
        deed = ("use", reading, rule, place, n, lot)
        paid = self.on_purse(deed, lambda purse: purse.use(reading, place, n, lot=lot))
        self.finish(not self.trees[rule].place_of(place).memory)
        return paid

    def lend(self, reading, rule, place, child, n, until, lot):
        deed = ("lend", reading, rule, place, child, n, until, lot)
        answer = self.on_purse(deed, lambda purse: purse.lend(reading, place, child, n, until=until, lot=lot))
        self.finish(answer[1] is not None or self.trees[rule].place_of(child).memory)
        return answer

    def prolong(self, reading, rule, number, until):
        letter = self.on_purse(("prolong", reading, rule, number, until),
                               lambda purse: purse.prolong(reading, number, until))
        self.finish(True)
        return letter

    def give(self, reading, rule, place, lot, parts):
        letter = self.on_purse(("give", reading, rule, place, lot, parts),
                               lambda purse: purse.give_back(reading, place, lot, parts))
        self.finish(letter is not None)
        return letter

    def recall(self, reading, rule, place, lot):
        self.on_purse(("recall", reading, rule, place, lot), lambda purse: purse.recall(reading, place, lot))
        self.finish(False)

    def receive(self, reading, letter):
        self.check(reading)
        if letter[1] not in self.trees:
            raise Wrong("WrongLetter", letter)
        got = told(self.purses[letter[1]].receive, reading, letter)
        if got[0] != "returned":
            raise Wrong(*got)
        self.settle(reading)
        self.booked(letter[1], ("receive", reading, letter))
        self.finish(False)
        return got[1]

    def do(self, deed):
        return getattr(self, deed[0])(*deed[1:])

    def fall(self, cut):
        if self.disk.fallen:
            raise Wrong("Fallen", self.name)
        self.disk.fall(cut)
        self.purses, self.books = {}, None
        self.clear()

    def crash(self, deed, cut):
        if self.disk.fallen:
            raise Wrong("Fallen", self.name)
        self.disk.halts = True
        try:
            self.do(deed)
        except Stop:
            pass
        self.disk.halts = False
        self.fall(cut)

    def wake(self, reading):
        if not self.disk.fallen:
            raise Wrong("NotFallen", self.name)
        if type(reading) is not int or reading + self.error < 0:
            raise Wrong("BadReading", self.name, reading)
        _, _, table = read(self.disk.areas())
        purses = {}
        for rule, tree in self.trees.items():
            try:
                purses[rule] = Purse.restored(tree, self.name, self.error, table, reading)
            except (SureletError, Missing) as error:
                raise Wrong("BadReading", error.server, error.reading)
        self.purses = purses
        self.disk.wake()
        self.books = {rule: [] for rule in self.trees}
        self.finish(False)
        self.ever = True

    def when(self, reading, room, most):
        """All readings up to the one that is at most asked, one by one."""
        head = self.head(room)
        for tried in range(reading, most + 1):
            other = self.copy()
            _, requests = other.serve(tried)
            if any(request is head for request in requests):
                return tried
        return None
