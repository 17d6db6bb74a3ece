"""Worlds: houses that run, with servers that fall, and letters that come late, often or never."""

from surelet.copies import copied
from surelet.errors import InvalidEvent, Missing, NotNow, Refused, SureletError
from surelet.events import carried, check_letter, check_time, is_event, letter_sent
from surelet.payments import sums_paid
from surelet.rules import fullest, is_within
from surelet.servers import Server
from surelet.words import look_up


class World:
    """A house that runs."""

    def __init__(self, house, *, rows=16):
        self.house = house
        self._servers = {name: Server(house, name, rows=rows) for name in house.servers()}
        self._letters = []
        self._uses = {rule: [] for rule in house.rules()}
        self._events = []
        self._now = 0

    def do(self, event):
        """Does an event; returns what its deed returns, None for other events."""
        if not is_event(event):
            raise InvalidEvent(event)
        answer = None
        if event[0] == "lose":
            self.lose(event[1])
        else:
            answer = self.happen(*event)
        self._events.append(copied(event))
        return answer

    def lose(self, index):
        """Loses a letter for good."""
        check_letter(self._letters, index)
        self._letters[index] = None

    def happen(self, word, moment, name, told, cut=()):
        """An event on a server, of which its deed, reading or cut is told; returns what a deed returns."""
        server = look_up(self._servers, name)
        check_time(self._now, moment, name, self.house.error_of(name), reading_told(word, moment, told))
        answer = None
        if word == "deed":
            deed = carried(told, self._letters)
            answer = server.do(deed)
            self.note(moment, deed, answer)
        elif word == "crash":
            server.crash(carried(told, self._letters), cut)
        elif word == "wake":
            server.wake(told)
        else:
            server.fall(told)
        self._now = moment
        return answer

    def note(self, moment, deed, answer):
        """Keeps what a deed that was done let by and sent."""
        for rule, n in sums_paid(deed, answer):
            self._uses[rule].append((moment, n))
        letter = letter_sent(deed, answer)
        if letter is not None:
            self._letters.append(letter)

    def server_of(self, name):
        """A copy of a server."""
        return look_up(self._servers, name).copy()

    def letters(self):
        """All letters that were sent, with None for lost ones."""
        return list(self._letters)

    def uses(self, rule):
        """The uses of a rule, in the order of their events."""
        return list(look_up(self._uses, rule))

    def fullest(self, rule):
        """The fullest stretch of the uses of a rule."""
        return fullest(self.house.tree_of(rule).rule.rest, self.uses(rule))

    def over(self):
        """The rules whose uses are not within them, ascending."""
        return [rule for rule in self._uses if not is_within(self.house.tree_of(rule).rule, self.uses(rule))]

    def events(self):
        """The events that were done."""
        return copied(self._events)

    @property
    def now(self):
        """The present moment."""
        return self._now

    def copy(self):
        """A world that shares nothing with this one."""
        other = World(self.house)
        other._servers = {name: server.copy() for name, server in self._servers.items()}
        other._letters = self.letters()
        other._uses = {rule: list(uses) for rule, uses in self._uses.items()}
        # Events that were done are never changed here, so copies may share them.
        other._events = list(self._events)
        other._now = self._now
        return other


def reading_told(word, moment, told):
    """The reading of an event on a server."""
    if word == "fall":
        # A fall has no reading, and at the moment itself any clock may be right.
        return moment
    return told if word == "wake" else told[1]


def replay(house, events, *, rows=16):
    """The world behind a list of events."""
    world = World(house, rows=rows)
    for at, event in enumerate(events):
        try:
            world.do(event)
        except (SureletError, Missing, NotNow) as error:
            raise Refused(at) from error
    return world


def attempt(world, events):
    """What the world would return if it did the events; it does not do them."""
    trial = world.copy()
    return [trial.do(event) for event in events]
