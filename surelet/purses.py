"""Purses: what one server has of one rule."""

from surelet.bounds import MOST_ERROR
from surelet.errors import (
    BadReading, InvalidNumber, InvalidParts, NoElder, NotHeld, Over, UnknownLoan, UnknownLot, UnknownName, WrongLetter,
)
from surelet.letters import is_letter, is_parts, is_sound
from surelet.lots import Lot, by_end
from surelet.standings import paying_order, standing_of
from surelet.stocks import Stock
from surelet.stocktables import stock_from, table_of
from surelet.words import is_from, is_number, is_whole, look_up


class Purse:
    """The lots of one rule at the places of one server, and what is lent from them."""

    def __init__(self, tree, server, error):
        top = tree.top(server)
        if not is_number(error, 0, MOST_ERROR):
            raise InvalidNumber(error)
        self.tree = tree
        self.server = server
        self.error = error
        self._stock = Stock(tree, server)
        self._past = 0
        self._last = None
        if tree.place_of(top).elder is None:
            self._stock.put(top, Lot(0, None, None, tree.rule.chips))

    @classmethod
    def restored(cls, tree, server, error, table, reading):
        """The purse of a table, behind a fall of its server; what was lent to memory rests as if it had been used."""
        purse = cls(tree, server, error)
        purse.restore(table, reading)
        return purse

    def restore(self, table, reading):
        """Takes all from a table, and settles."""
        stock, self._past = stock_from(self.tree, self.server, table)
        low, high = self.span(reading)
        stock.strand(high)
        stock.settle(low, high)
        self.commit(stock, low, reading)

    def copy(self):
        """A purse that shares nothing with this one."""
        other = Purse(self.tree, self.server, self.error)
        other.commit(self._stock.copied(), self._past, self._last)
        return other

    def span(self, reading):
        """The low and the high of a reading; raises BadReading if it cannot be right."""
        if not is_whole(reading) or reading + self.error < self._past:
            raise BadReading(self.server, reading)
        return max(0, reading - self.error, self._past), reading + self.error

    def settled(self, low, high):
        """A copy of the stock behind settling, on which an operation can be tried."""
        stock = self._stock.copied()
        stock.settle(low, high)
        return stock

    def commit(self, stock, low, reading):
        """Ends an operation that raised no error."""
        self._stock = stock
        self._past = low
        self._last = reading

    def settle(self, reading):
        """Does nothing but the first step of each operation."""
        low, high = self.span(reading)
        self.commit(self.settled(low, high), low, reading)

    def use(self, reading, place, n, *, lot=None):
        """Uses n chips of a place, or of one lot of it; returns the payment."""
        low, high = self.span(reading)
        stock = self.settled(low, high)
        lots = by_end([one for one in lots_from(stock, place, lot) if one.lives(high)])
        if not is_from(n, 1) or n > sum([one.ready for one in lots]):
            raise NotHeld(place, n)
        payment = stock.pay([(place, one) for one in lots], n, high)
        self.commit(stock, low, reading)
        return payment

    def pay(self, reading, path, n):
        """Uses n chips of all places for a path; returns the payment."""
        low, high = self.span(reading)
        stock = self.settled(low, high)
        rows = paying_order(stock, path, high)
        if not is_from(n, 1) or n > sum([lot.ready for _, lot in rows]):
            raise NotHeld(self.tree.rule.name, n)
        payment = stock.pay(rows, n, high)
        self.commit(stock, low, reading)
        return payment

    def lend(self, reading, place, child, n, *, until=None, lot=None):
        """Lends n chips of a place to a child of it; returns the number of the loan and its letter, or None."""
        low, high = self.span(reading)
        stock = self.settled(low, high)
        look_up(stock.shelves, place)
        if child not in self.tree.children(place):
            raise UnknownName(child)
        here = stock.is_here(child)
        if not is_lending_until(until, here, low, high):
            raise Over(until)
        lots = [one for one in lots_from(stock, place, lot) if is_from(n, 1) and one.ready >= n]
        if len(lots) == 0:
            raise NotHeld(place, n)
        lots = [one for one in lots if here or one.end is None or one.end >= until]
        if len(lots) == 0:
            raise Over(until)
        answer = stock.lend(place, by_end(lots)[0], child, n, until)
        self.commit(stock, low, reading)
        return answer

    def prolong(self, reading, number, until):
        """Gives a loan to another server a later end; returns the letter."""
        low, high = self.span(reading)
        stock = self.settled(low, high)
        if not is_whole(number):
            raise UnknownLoan(number)
        place, lot = stock.far_loan(number)
        if lot is None:
            raise UnknownLoan(number)
        least = max(low, lot.loan_of(number).end) + 1
        if not is_from(until, least) or (lot.end is not None and until > lot.end):
            raise Over(until)
        letter = stock.prolong(place, lot, number, until)
        self.commit(stock, low, reading)
        return letter

    def give_back(self, reading, place, lot, parts):
        """Gives parts of a lot to the elder of its place; returns the letter, None on the same server."""
        low, high = self.span(reading)
        stock = self.settled(low, high)
        held = lot_from(stock, place, lot)
        if stock.elder_of(place) is None:
            raise NoElder(place)
        if not is_parts(parts):
            raise InvalidParts(parts)
        missing = held.first_missing(parts)
        if missing is not None:
            raise NotHeld(place, missing)
        letter = stock.give_back(place, held, tuple(parts))
        self.commit(stock, low, reading)
        return letter

    def recall(self, reading, place, lot):
        """Brings a lot, and all beneath it on this server, back to the elder of its place."""
        low, high = self.span(reading)
        stock = self.settled(low, high)
        lot_from(stock, place, lot)
        if place == self.tree.top(self.server):
            raise NoElder(place)
        stock.recall(place, lot)
        self.commit(stock, low, reading)

    def receive(self, reading, letter):
        """Receives a letter; returns whether it did more than settling."""
        low, high = self.span(reading)
        stock = self.settled(low, high)
        if not is_letter(letter) or not self.is_for_me(letter) or not is_sound(letter):
            raise WrongLetter(letter)
        if letter[0] == "lend":
            done = stock.take_lend(letter, low)
        elif letter[0] == "extend":
            done = stock.take_extend(letter)
        else:
            done = stock.take_back(letter, low, high)
        self.commit(stock, low, reading)
        return done

    def is_for_me(self, letter):
        """Whether the rule and the place of a letter are such that this server receives it."""
        word, rule, name = letter[:3]
        if rule != self.tree.rule.name or name not in self.tree:
            return False
        place = self.tree.place_of(name)
        if place.elder is None:
            return False
        sender, receiver = self.tree.place_of(place.elder).server, place.server
        if word == "back":
            sender, receiver = receiver, sender
        return receiver == self.server and sender != self.server

    def lots(self, place):
        """The lots of a place of this server, by numbers."""
        shelf = look_up(self._stock.shelves, place)
        return [shelf[number].row() for number in sorted(shelf)]

    def lot(self, place, number):
        """One lot of a place of this server."""
        return lot_from(self._stock, place, number).row()

    def remembered(self):
        """The remembered numbers with the ends of their letters, numbers ascending."""
        return {number: self._stock.had[number] for number in sorted(self._stock.had)}

    def usable(self, place):
        """How many chips of a place can be used."""
        shelf = look_up(self._stock.shelves, place)
        return sum([lot.ready for lot in shelf.values() if lot.lives(self.last_high())])

    def payable(self, path=()):
        """How many chips can be paid for a path."""
        return sum([lot.ready for _, lot in paying_order(self._stock, path, self.last_high())])

    def last_high(self):
        """The high of the last operation; ahead of the first one, a high at which all lots live."""
        return -1 if self._last is None else self._last + self.error

    def standing(self):
        """The last reading, and what the living lots are, but for their numbers."""
        return self._last, standing_of(self._stock, self.last_high())

    def table(self):
        """The table from which the purse can be restored, keys ascending."""
        return table_of(self._stock, self._past)

    @property
    def ready_chips(self):
        """How many chips are ready in all lots."""
        return sum([lot.ready for shelf in self._stock.shelves.values() for lot in shelf.values()])

    @property
    def past(self):
        """The low that the server remembers."""
        return self._past

    @property
    def last_reading(self):
        """The reading of the last operation, or None."""
        return self._last

    def __len__(self):
        return len(range(self._stock.held()))

    def __bool__(self):
        return True


def lot_from(stock, place, number):
    """One lot of a place; raises UnknownName(place) or UnknownLot(place, number)."""
    shelf = look_up(stock.shelves, place)
    if not is_whole(number) or number not in shelf:
        raise UnknownLot(place, number)
    return shelf[number]


def lots_from(stock, place, number):
    """The lots of a place, or the one that is named; raises as lot_from."""
    if number is None:
        return list(look_up(stock.shelves, place).values())
    return [lot_from(stock, place, number)]


def is_lending_until(until, here, low, high):
    """Whether chips can be lent until a moment, on this server or to another one."""
    if here:
        return until is None or is_from(until, high + 1)
    return is_from(until, low + 1)
