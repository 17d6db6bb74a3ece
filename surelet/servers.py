"""Servers: purses, a disk and rooms, which may fall and wake."""

from surelet.bounds import MOST_WAITING, check_count
from surelet.cells import changes_between
from surelet.deeds import is_deed
from surelet.disks import Disk, check_cut, read_areas
from surelet.errors import BadReading, Elsewhere, Fallen, InvalidDeed, NotFallen, Over, WrongLetter
from surelet.letters import is_letter
from surelet.payments import (
    answer_entry, answer_request, is_served, leave_rooms, paid_by, serve_rooms, telling_readings,
)
from surelet.purses import Purse
from surelet.rooms import Room, check_cost
from surelet.words import is_from, is_whole, look_up


class Server:
    """One server of a house."""

    def __init__(self, house, name, *, rows=16):
        self._error = house.error_of(name)
        self.name = name
        self._house = house
        self._trees = trees_on(house, name)
        self._purses = {rule: Purse(tree, name, self._error) for rule, tree in self._trees.items()}
        self._rooms = self.empty_rooms()
        self._books = {rule: [] for rule in self._trees}
        self._steady = True
        self._disk = Disk(self.tables(), rows=rows)

    def empty_rooms(self):
        """A room without marks for each name of a room of this server."""
        weights = {customer: self._house.weight_of(customer) for customer in self._house.customers()}
        return {room: Room(weights) for room in self._house.rooms(self.name)}

    def tables(self):
        """The tables of all purses together."""
        return {key: value for purse in self._purses.values() for key, value in purse.table().items()}

    def check_awake(self):
        """Raises Fallen while the server is fallen."""
        if self._disk.fallen:
            raise Fallen(self.name)

    def check_reading(self, reading):
        """Raises what each operation raises first."""
        self.check_awake()
        pasts = [purse.past for purse in self._purses.values()]
        if not is_whole(reading) or reading + self._error < max([0] + pasts):
            raise BadReading(self.name, reading)

    def purse_for(self, reading, rule):
        """The live purse of a rule, for an operation."""
        self.check_reading(reading)
        return look_up(self._purses, rule)

    def settle(self, reading, rule=None):
        """Settles all purses but the one of this rule."""
        for other, purse in self._purses.items():
            if other != rule:
                purse.settle(reading)
                self.note(other, ("tick", reading))

    def note(self, rule, deed):
        """Keeps a deed in the book of a rule; behind a fall nobody may ask for it."""
        if self._steady:
            self._books[rule].append(deed)

    def write(self, synced):
        """Writes what is now different, as one record."""
        self._disk.write(changes_between(self._disk.table(), self.tables()))
        if synced:
            self._disk.sync()

    def close(self, deed, rule, synced):
        """Ends an operation on the purse of a rule, which has done this deed."""
        self.note(rule, deed)
        self.settle(deed[1], rule)
        self.write(synced)

    def close_paid(self, reading, answers):
        """Ends an operation that settled all purses and then paid for these answers."""
        paid = [row for answer in answers for row in paid_by(answer)]
        for rule, place, number, n in paid:
            self.note(rule, ("use", reading, rule, place, n, number))
        self.write(any([self.is_on_disk(rule, place) for rule, place, _, _ in paid]))

    def is_on_disk(self, rule, place):
        """Whether a place is on disk."""
        return not self._trees[rule].place_of(place).memory

    def tick(self, reading):
        """Serves the heads that can be paid; returns the triples (room, customer, Yes)."""
        self.check_reading(reading)
        self.settle(reading)
        leave_rooms(self._rooms, reading)
        served = serve_rooms(self._house, self._purses, reading, self._rooms)
        self.close_paid(reading, [answer for _, _, answer in served])
        return served

    def request(self, reading, customer, cost):
        """Answers a request that does not wait."""
        self.check_reading(reading)
        self._house.weight_of(customer)
        check_cost(cost)
        self.settle(reading)
        answer = answer_request(self._house, self._purses, reading, customer, cost)
        self.close_paid(reading, [answer])
        return answer

    def enter(self, reading, room, customer, cost, *, until=None):
        """Answers a request that may wait in a room until a reading."""
        self.check_reading(reading)
        look_up(self._rooms, room)
        self._house.weight_of(customer)
        check_cost(cost)
        if until is not None and not is_from(until, reading):
            raise Over(until)
        rooms = {name: self._rooms[name].copy() for name in self._rooms}
        leave_rooms(rooms, reading)
        for name in rooms:
            if name != room and customer in [row[0] for row in rooms[name].waiting()]:
                raise Elsewhere(name)
        if until is not None:
            check_count("waiting", len(rooms[room]) + 1, MOST_WAITING)
        self._rooms = rooms
        self.settle(reading)
        answer = answer_entry(self._house, self._purses, reading, room, rooms[room], (customer, cost, until))
        self.close_paid(reading, [answer])
        return answer

    def use(self, reading, rule, place, n, *, lot=None):
        """Uses chips of a place; returns the payment."""
        payment = self.purse_for(reading, rule).use(reading, place, n, lot=lot)
        self.close(("use", reading, rule, place, n, lot), rule, self.is_on_disk(rule, place))
        return payment

    def lend(self, reading, rule, place, child, n, *, until=None, lot=None):
        """Lends chips of a place to a child; returns the number of the loan and its letter, or None."""
        number, letter = self.purse_for(reading, rule).lend(reading, place, child, n, until=until, lot=lot)
        synced = letter is not None or not self.is_on_disk(rule, child)
        self.close(("lend", reading, rule, place, child, n, until, lot), rule, synced)
        return number, letter

    def prolong(self, reading, rule, number, until):
        """Gives a loan to another server a later end; returns the letter."""
        letter = self.purse_for(reading, rule).prolong(reading, number, until)
        self.close(("prolong", reading, rule, number, until), rule, True)
        return letter

    def give_back(self, reading, rule, place, lot, parts):
        """Gives parts of a lot to the elder of its place; returns the letter, None on the same server."""
        letter = self.purse_for(reading, rule).give_back(reading, place, lot, parts)
        self.close(("give", reading, rule, place, lot, copied_parts(parts)), rule, letter is not None)
        return letter

    def recall(self, reading, rule, place, lot):
        """Brings a lot, and all beneath it on this server, back to the elder of its place."""
        self.purse_for(reading, rule).recall(reading, place, lot)
        self.close(("recall", reading, rule, place, lot), rule, False)

    def receive(self, reading, letter):
        """Receives a letter; returns whether it did more than settling."""
        self.check_reading(reading)
        if not is_letter(letter) or letter[1] not in self._purses:
            raise WrongLetter(letter)
        done = self._purses[letter[1]].receive(reading, letter)
        self.close(("receive", reading, letter), letter[1], False)
        return done

    def do(self, deed):
        """Does a deed; returns what the operation returns."""
        if not is_deed(deed) or deed[0] == "carry":
            raise InvalidDeed(deed)
        word, reading, *told = deed
        if word == "tick":
            return self.tick(reading)
        if word == "request":
            return self.request(reading, *told)
        if word == "enter":
            *named, until = told
            return self.enter(reading, *named, until=until)
        if word == "use":
            *named, lot = told
            return self.use(reading, *named, lot=lot)
        if word == "lend":
            *named, until, lot = told
            return self.lend(reading, *named, until=until, lot=lot)
        if word == "prolong":
            return self.prolong(reading, *told)
        if word == "give":
            return self.give_back(reading, *told)
        if word == "recall":
            return self.recall(reading, *told)
        return self.receive(reading, *told)

    def fall(self, cut=()):
        """Loses the memory, and what the cut tells of the disk."""
        self.check_awake()
        self._disk.fall(cut)
        self._purses = {}
        self._rooms = {}
        self._books = {}
        self._steady = False

    def wake(self, reading):
        """Restores the purses from the disk; the rooms are empty."""
        if not self._disk.fallen:
            raise NotFallen(self.name)
        if not is_whole(reading) or reading + self._error < 0:
            raise BadReading(self.name, reading)
        _, _, table = read_areas(self._disk.areas())
        purses = {}
        for rule, tree in self._trees.items():
            purses[rule] = Purse.restored(tree, self.name, self._error, table, reading)
        self._purses = purses
        self._rooms = self.empty_rooms()
        self._disk.wake()
        self.write(False)

    def crash(self, deed, cut=()):
        """Falls amid an operation, at its first sync."""
        trial = self.copy()
        trial._disk.halt_at_sync()
        trial.do(deed)
        check_cut(cut)
        self._disk = trial.disk()
        self.fall(cut)

    def when(self, reading, room):
        """The least reading, from this one on, at which a tick serves what is now the head of a room; or None."""
        self.check_reading(reading)
        if look_up(self._rooms, room).head is None:
            return None
        for tried in telling_readings(self._purses, self._rooms, reading):
            purses = {rule: self._purses[rule].copy() for rule in self._purses}
            rooms = {name: self._rooms[name].copy() for name in self._rooms}
            if is_served(self._house, purses, tried, rooms, room):
                return tried
        return None

    def purse(self, rule):
        """A copy of the purse of a rule."""
        self.check_awake()
        return look_up(self._purses, rule).copy()

    def disk(self):
        """A copy of the disk."""
        return self._disk.copy()

    def waiting_in(self, room):
        """The waiting requests of a room."""
        self.check_awake()
        return look_up(self._rooms, room).waiting()

    def head_of(self, room):
        """The head of a room, or None."""
        self.check_awake()
        return look_up(self._rooms, room).head

    def mark_in(self, room, customer):
        """The mark of a customer in a room."""
        self.check_awake()
        return look_up(self._rooms, room).mark_of(customer)

    def book(self, rule):
        """The deeds that lead a new purse to where the purse of a rule is."""
        self._house.tree_of(rule)
        if not self._steady:
            raise Fallen(self.name)
        return [(*deed[:-1], copied_parts(deed[-1])) for deed in self._books.get(rule, [])]

    @property
    def syncs(self):
        """How many syncs of the disk counted."""
        return self._disk.syncs

    @property
    def fallen(self):
        """Whether the server is fallen."""
        return self._disk.fallen

    def copy(self):
        """A server that shares nothing with this one."""
        other = Server(self._house, self.name)
        other._purses = {rule: purse.copy() for rule, purse in self._purses.items()}
        other._rooms = {name: room.copy() for name, room in self._rooms.items()}
        other._books = {rule: list(deeds) for rule, deeds in self._books.items()}
        other._steady = self._steady
        other._disk = self._disk.copy()
        return other


def trees_on(house, server):
    """A dict from the rules with a place on a server to their trees, in the ascending order of the rules."""
    trees = {rule: house.tree_of(rule) for rule in house.rules()}
    return {rule: tree for rule, tree in trees.items() if server in tree.servers()}


def copied_parts(value):
    """A value as a book keeps it: a list of parts is copied, since others may change it."""
    return list(value) if isinstance(value, list) else value
