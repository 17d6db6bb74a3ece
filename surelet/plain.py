"""The plain house of a rule: one purse for each server of its tree, and the letters between them."""

from surelet.deeds import perform
from surelet.errors import InvalidEvent
from surelet.events import carried, check_time, is_plain_event, letter_sent
from surelet.purses import Purse
from surelet.words import look_up


class Plain:
    """A house of one rule without disks, which runs."""

    def __init__(self, tree, errors):
        self._purses = {server: Purse(tree, server, errors[server]) for server in tree.servers()}
        self._letters = []
        self._uses = []
        self._now = 0

    def do(self, event):
        """Does an event; returns what the operation of its deed returns."""
        if not is_plain_event(event):
            raise InvalidEvent(event)
        _, moment, server, deed = event
        purse = look_up(self._purses, server)
        check_time(self._now, moment, server, purse.error, deed[1])
        answer = perform(purse, carried(deed, self._letters))
        self.note(moment, deed, answer)
        return answer

    def note(self, moment, deed, answer):
        """Keeps what a deed that was done sent and used."""
        self._now = moment
        if deed[0] == "use":
            self._uses.append((moment, deed[4]))
        letter = letter_sent(deed, answer)
        if letter is not None:
            self._letters.append(letter)

    def purse(self, server):
        """The live purse of a server."""
        return look_up(self._purses, server)

    def letters(self):
        """The letters that were sent, in order."""
        return list(self._letters)

    def uses(self):
        """The uses of the deeds use, in order."""
        return list(self._uses)

    @property
    def now(self):
        """The present moment."""
        return self._now
