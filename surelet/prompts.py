"""Prompt runs: heaps of chips in a net, in which no letter is lost or late."""

from surelet.bounds import MOST_LAST, MOST_SIZE
from surelet.choices import Choices
from surelet.deeds import perform
from surelet.errors import InvalidNumber, Missing, NotPrompt, SureletError
from surelet.events import letter_sent
from surelet.purses import Purse
from surelet.words import is_number


class Prompt:
    """A prompt run, and what it tells."""

    def __init__(self, net, heaps, demands, moments, choices):
        self._net = net
        self._demands = list(demands)
        self._moments = list(moments)
        self._choices = Choices(choices)
        self._policies = [policy for _, policy in heaps]
        self._purses = [new_purses(net, chips) for chips, _ in heaps]
        self._kept = [None for _ in demands]
        self._uses = [[] for _ in heaps]
        self._operations = [[] for _ in heaps]
        self._letters = [[] for _ in heaps]
        # The letters on their way, as triples of when they are due, their heap and the letter, in the order of sending.
        self._bag = []

    def pass_moment(self, moment):
        """Lets a moment pass with its four steps."""
        coming = [at for at, own in enumerate(self._moments) if own == moment]
        late = len(coming) > 0 and self._choices.choose(2) == 1
        if not late:
            self.bring(moment, coming)
        self.carry(moment)
        self.tick(moment)
        self.carry(moment)
        if late:
            self.bring(moment, coming)

    def bring(self, moment, coming):
        """Lets demands come."""
        for at in coming:
            place, reading, heap = self._demands[at]
            usable = self.begin(moment, heap, place, reading, "demand")
            self._kept[at] = usable > 0
            if usable > 0:
                self._purses[heap][place].use(reading, place, 1)
                self._uses[heap].append((moment, 1))

    def begin(self, moment, heap, place, reading, word):
        """Settles a purse at the beginning of an operation; returns how many chips can be used then."""
        purse = self._purses[heap][place]
        purse.settle(reading)
        usable = purse.usable(place)
        self._operations[heap].append((moment, place, reading, word, usable))
        return usable

    def carry(self, moment):
        """Carries the letters that are due, also those that are sent meanwhile."""
        at = 0
        while at < len(self._bag):
            due, heap, letter = self._bag[at]
            if due > moment:
                at += 1
            else:
                self._bag.pop(at)
                self.deliver(moment, heap, letter)

    def deliver(self, moment, heap, letter):
        """Lets a letter be received, and asks the policy."""
        place = letter[2]
        if letter[0] == "back":
            place = self._net.elder_of(place)
        reading = self.reading_at(moment, place)
        self.begin(moment, heap, place, reading, "letter")
        self._purses[heap][place].receive(reading, letter)
        self.ask(moment, heap, place, reading)

    def tick(self, moment):
        """Settles all purses, and asks the policies."""
        for place in self._net.names():
            reading = self.reading_at(moment, place)
            for heap in range(len(self._purses)):
                self.begin(moment, heap, place, reading, "tick")
                self.ask(moment, heap, place, reading)

    def reading_at(self, moment, place):
        """What the clock of a place shows at a moment."""
        error = self._net.error_of(place)
        return moment - error + self._choices.choose(2 * error + 1)

    def ask(self, moment, heap, place, reading):
        """Asks the policy of a heap, and does what it wants."""
        policy = self._policies[heap]
        if policy is None:
            return
        come = tuple([at for at, kept in enumerate(self._kept) if kept is not None])
        for deed in policy(place, reading, self._purses[heap][place].copy(), come):
            self.do_or_pass(moment, heap, place, deed)

    def do_or_pass(self, moment, heap, place, deed):
        """Does a deed of a policy, unless the purse refuses it."""
        try:
            letter = letter_sent(deed, perform(self._purses[heap][place], deed))
        except (SureletError, Missing):
            return
        delay = self._net.delay_of(letter[2])
        self._letters[heap].append((moment, letter))
        self._bag.append((moment + delay - self._choices.choose(delay + 1), heap, letter))

    def kept(self):
        """For each demand whether it was kept, None if it did not come."""
        return list(self._kept)

    def uses(self, heap):
        """The uses of the kept demands of a heap, in the order in which they came."""
        return list(self._uses[heap])

    def operations(self, heap):
        """The operations of a heap as tuples (moment, place, reading, word, usable), in order."""
        return list(self._operations[heap])

    def letters(self, heap):
        """The letters of a heap as tuples (moment, letter), in the order of sending."""
        return list(self._letters[heap])


def prompt(net, heaps, demands, *, moments, choices=(), last):
    """The prompt run of heaps and demands from the moment 0 to the last one."""
    if not is_number(last, 0, MOST_LAST):
        raise InvalidNumber(last)
    for chips, _ in heaps:
        if not is_number(chips, 1, MOST_SIZE):
            raise InvalidNumber(chips)
    check_moments(net, demands, moments, last)
    run = Prompt(net, heaps, demands, moments, choices)
    for moment in range(last + 1):
        run.pass_moment(moment)
    return run


def check_moments(net, demands, moments, last):
    """Raises NotPrompt unless each demand has a moment at which its clock may show its reading."""
    for at, (place, reading, _) in enumerate(demands):
        if at >= len(moments) or not may_come(moments[at], reading, net.error_of(place), last):
            raise NotPrompt(at)
    if len(moments) > len(demands):
        raise NotPrompt(len(demands))


def may_come(moment, reading, error, last):
    """Whether any value is the moment of a demand that comes, or None."""
    return moment is None or (is_number(moment, 0, last) and abs(moment - reading) <= error)


def new_purses(net, chips):
    """A new purse for each place of a net."""
    tree = net.tree_of(chips)
    return {name: Purse(tree, name, net.error_of(name)) for name in net.names()}
