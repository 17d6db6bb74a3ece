"""The plain house of a rule: one purse for each server of its tree, and the letters between them."""

from surelet.deeds import is_deed, perform
from surelet.errors import BadMoment, BadReading, InvalidEvent, NoSuchLetter
from surelet.purses import Purse
from surelet.words import is_from, is_name, look_up

PLAIN_WORDS = ("tick", "use", "lend", "prolong", "give", "recall", "carry")
# The deeds that send a letter, unless both places are on one server.
SENDING_WORDS = ("lend", "prolong", "give")


class Plain:
    """A house of one rule without disks, which runs."""

    def __init__(self, tree, errors):
        self._purses = {server: Purse(tree, server, errors[server]) for server in tree.servers()}
        self._letters = []
        self._uses = []
        self._now = 0

    def do(self, event):
        """Does an event; returns what the operation of its deed returns."""
        if not is_plain_event(event):
            raise InvalidEvent(event)
        _, moment, server, deed = event
        purse = look_up(self._purses, server)
        if moment < self._now:
            raise BadMoment(moment)
        if abs(deed[1] - moment) > purse.error:
            raise BadReading(server, deed[1])
        answer = perform(purse, self.carried(deed))
        self.note(moment, deed, answer)
        return answer

    def carried(self, deed):
        """The deed itself; for a deed carry, the one that receives its letter."""
        word, reading, *items = deed
        if word != "carry":
            return deed
        index = items[0]
        if not 0 <= index < len(self._letters):
            raise NoSuchLetter(index)
        return ("receive", reading, self._letters[index])

    def note(self, moment, deed, answer):
        """Keeps what a deed that was done sent and used."""
        self._now = moment
        word = deed[0]
        if word == "use":
            self._uses.append((moment, deed[4]))
        if word in SENDING_WORDS:
            letter = answer[1] if word == "lend" else answer
            if letter is not None:
                self._letters.append(letter)

    def purse(self, server):
        """The live purse of a server."""
        return look_up(self._purses, server)

    def letters(self):
        """The letters that were sent, in order."""
        return list(self._letters)

    def uses(self):
        """The uses of the deeds use, in order."""
        return list(self._uses)

    @property
    def now(self):
        """The present moment."""
        return self._now


def is_plain_event(value):
    """Whether any value is an event of a plain house."""
    if not isinstance(value, tuple) or len(value) != 4:
        return False
    word, moment, server, deed = value
    if word != "deed" or not is_from(moment, 0) or not is_name(server):
        return False
    return is_deed(deed) and deed[0] in PLAIN_WORDS
