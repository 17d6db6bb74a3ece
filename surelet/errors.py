"""The errors of the package. Their parameters are their attributes, and take any values."""


class SureletError(ValueError):
    """A value or a state that a call cannot take."""


class Missing(LookupError):
    """Something that is named and is not there."""


class NotNow(RuntimeError):
    """A call at a wrong time."""


class InvalidNumber(SureletError):
    """A value that is no number, or one out of its bounds."""

    def __init__(self, value):
        self.value = value
        self.code = "InvalidNumber"


class InvalidName(SureletError):
    """A value that is no name."""

    def __init__(self, value):
        self.value = value
        self.code = "InvalidName"


class InvalidText(SureletError):
    """A value that is no text of a rest or a rule."""

    def __init__(self, text):
        self.text = text
        self.code = "InvalidText"


class InvalidBorders(SureletError):
    """Borders with a wrong item; -1 stands for no list at all."""

    def __init__(self, at):
        self.at = at
        self.code = "InvalidBorders"


class InvalidRest(SureletError):
    """A value that is no rest."""

    def __init__(self, value):
        self.value = value
        self.code = "InvalidRest"


class InvalidRule(SureletError):
    """A value that is no rule."""

    def __init__(self, value):
        self.value = value
        self.code = "InvalidRule"


class InvalidPlace(SureletError):
    """The index of a value that is no place."""

    def __init__(self, at):
        self.at = at
        self.code = "InvalidPlace"


class InvalidServer(SureletError):
    """Servers with a wrong item; -1 stands for no list at all, or an empty one."""

    def __init__(self, at):
        self.at = at
        self.code = "InvalidServer"


class InvalidTree(SureletError):
    """The index of a value that is no tree of the house."""

    def __init__(self, at):
        self.at = at
        self.code = "InvalidTree"


class InvalidCustomer(SureletError):
    """Customers with a wrong item; -1 stands for no list at all."""

    def __init__(self, at):
        self.at = at
        self.code = "InvalidCustomer"


class InvalidRoom(SureletError):
    """Rooms with a wrong item; -1 stands for no list at all."""

    def __init__(self, at):
        self.at = at
        self.code = "InvalidRoom"


class InvalidRow(SureletError):
    """Rows with a wrong item; -1 stands for no list at all."""

    def __init__(self, at):
        self.at = at
        self.code = "InvalidRow"


class InvalidParts(SureletError):
    """A value that is no list of parts."""

    def __init__(self, value):
        self.value = value
        self.code = "InvalidParts"


class InvalidCut(SureletError):
    """A cut with a wrong item; -1 stands for no list at all."""

    def __init__(self, at):
        self.at = at
        self.code = "InvalidCut"


class InvalidDeed(SureletError):
    """A value that is no deed of the words that are asked for."""

    def __init__(self, value):
        self.value = value
        self.code = "InvalidDeed"


class InvalidEvent(SureletError):
    """A value that is no event."""

    def __init__(self, value):
        self.value = value
        self.code = "InvalidEvent"


class BadTree(SureletError):
    """The name of the place that spoils a tree, None without places."""

    def __init__(self, place):
        self.place = place
        self.code = "BadTree"


class BadReading(SureletError):
    """A reading that the clock of this server cannot show."""

    def __init__(self, server, reading):
        self.server = server
        self.reading = reading
        self.code = "BadReading"


class BadMoment(SureletError):
    """A moment below the present one."""

    def __init__(self, moment):
        self.moment = moment
        self.code = "BadMoment"


class TooMany(SureletError):
    """More of something than the bounds allow."""

    def __init__(self, what, count):
        self.what = what
        self.count = count
        self.code = "TooMany"


class Over(SureletError):
    """An end or an until that does not fit."""

    def __init__(self, value):
        self.value = value
        self.code = "Over"


class NotHeld(SureletError):
    """Chips that a place, or the places of a rule, do not have."""

    def __init__(self, place, n):
        self.place = place
        self.n = n
        self.code = "NotHeld"


class NoElder(SureletError):
    """A place without an elder that could take chips."""

    def __init__(self, place):
        self.place = place
        self.code = "NoElder"


class WrongLetter(SureletError):
    """A value that is no letter for this receiver."""

    def __init__(self, letter):
        self.letter = letter
        self.code = "WrongLetter"


class Elsewhere(SureletError):
    """The other room in which a customer waits."""

    def __init__(self, room):
        self.room = room
        self.code = "Elsewhere"


class NotLacking(SureletError):
    """Payable chips that are enough, so that no witness exists."""

    def __init__(self, ready):
        self.ready = ready
        self.code = "NotLacking"


class NotSettled(SureletError):
    """A purse that had no operation."""

    def __init__(self):
        self.code = "NotSettled"


class Early(SureletError):
    """The index of a demand that no chip can reach in time."""

    def __init__(self, at):
        self.at = at
        self.code = "Early"


class NotPrompt(SureletError):
    """The index of a demand whose moment is not one of a prompt run."""

    def __init__(self, at):
        self.at = at
        self.code = "NotPrompt"


class Refused(SureletError):
    """The index of an event that is refused."""

    def __init__(self, at):
        self.at = at
        self.code = "Refused"


class UnknownName(Missing):
    """A value that is no name of what is looked for."""

    def __init__(self, name):
        self.name = name
        self.code = "UnknownName"


class UnknownLot(Missing):
    """A lot that a place does not have."""

    def __init__(self, place, number):
        self.place = place
        self.number = number
        self.code = "UnknownLot"


class UnknownLoan(Missing):
    """A loan that a purse does not have."""

    def __init__(self, number):
        self.number = number
        self.code = "UnknownLoan"


class NoSuchLetter(Missing):
    """The index of a letter that was not sent, or was lost."""

    def __init__(self, index):
        self.index = index
        self.code = "NoSuchLetter"


class Fallen(NotNow):
    """What has fallen, and can only wake."""

    def __init__(self, name):
        self.name = name
        self.code = "Fallen"


class NotFallen(NotNow):
    """What cannot wake, since it has not fallen."""

    def __init__(self, name):
        self.name = name
        self.code = "NotFallen"
