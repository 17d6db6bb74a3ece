"""Rooms, in which customers wait and are served in fair turns."""

from surelet.bounds import MOST_COST, MOST_WAITING, check_count
from surelet.errors import InvalidNumber, UnknownName
from surelet.houses import least_multiple
from surelet.words import is_number, look_up


def check_cost(cost):
    """Raises InvalidNumber unless a request may cost this much."""
    if not is_number(cost, 1, MOST_COST):
        raise InvalidNumber(cost)


class Room:
    """Waiting requests, and what each customer was served so far, by its weight."""

    def __init__(self, weights):
        self._weights = dict(weights)
        self._marks = {customer: 0 for customer in weights}
        self._level = 0
        self._scale = least_multiple(list(weights.values()))
        self._waiting = []

    def join(self, customer, cost, until=None):
        """Lets a request wait behind those of the same customer."""
        mark = look_up(self._marks, customer)
        check_cost(cost)
        check_count("waiting", len(self._waiting) + 1, MOST_WAITING)
        if customer not in [other for other, _, _ in self._waiting]:
            self._marks[customer] = max(mark, self._level)
        self._waiting.append((customer, cost, until))

    def serve(self):
        """Serves the head; returns its customer and its cost."""
        head = self.head
        if head is None:
            raise UnknownName(None)
        customer, cost, _ = head
        # An equal request has the same customer, so the head is the first one that is found.
        self._waiting.remove(head)
        self._level = self._marks[customer]
        self._marks[customer] += cost * self._scale // self._weights[customer]
        return customer, cost

    def leave(self, reading):
        """Lets the requests go whose until is below the reading; returns their customers."""
        gone = [customer for customer, _, until in self._waiting if until is not None and until < reading]
        self._waiting = [row for row in self._waiting if row[2] is None or row[2] >= reading]
        return gone

    def waiting(self):
        """The waiting requests as triples (customer, cost, until), in the order in which they joined."""
        return list(self._waiting)

    def mark_of(self, customer):
        """The mark of a customer."""
        return look_up(self._marks, customer)

    @property
    def head(self):
        """The first request of the customer with the least mark, then the least name; None if nobody waits."""
        turns = [(self._marks[row[0]], row[0], at) for at, row in enumerate(self._waiting)]
        return self._waiting[min(turns)[2]] if len(turns) > 0 else None

    @property
    def level(self):
        """The mark that the customer that was served last had ahead of this."""
        return self._level

    @property
    def scale(self):
        """The least common multiple of the weights."""
        return self._scale

    def __len__(self):
        return len(self._waiting)

    def __bool__(self):
        return True

    def copy(self):
        """A room that shares nothing with this one."""
        other = Room(self._weights)
        other._marks = dict(self._marks)
        other._level = self._level
        other._waiting = list(self._waiting)
        return other
