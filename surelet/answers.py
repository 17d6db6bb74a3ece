"""The answers to requests."""


class Yes:
    """The request is let by, and these chips were paid."""

    def __init__(self, paid):
        self.paid = tuple(paid)
        self.word = "yes"

    def __eq__(self, other):
        return isinstance(other, Yes) and self.paid == other.paid

    def __repr__(self):
        return f"Yes({sum([row[3] for row in self.paid])} chips)"


class No:
    """The request is refused, since a rule has too few payable chips."""

    def __init__(self, rule, ready, asked):
        self.rule = rule
        self.ready = ready
        self.asked = asked
        self.word = "no"

    def __eq__(self, other):
        return (isinstance(other, No) and self.rule == other.rule and self.ready == other.ready
                and self.asked == other.asked)

    def __repr__(self):
        return f"No({self.rule}, {self.ready} of {self.asked})"


class Behind:
    """The request is refused, since somebody waits ahead of it."""

    def __init__(self, customer):
        self.customer = customer
        self.word = "behind"

    def __eq__(self, other):
        return isinstance(other, Behind) and self.customer == other.customer

    def __repr__(self):
        return f"Behind({self.customer})"


class Waits:
    """The request waits in a room."""

    def __init__(self, room):
        self.room = room
        self.word = "waits"

    def __eq__(self, other):
        return isinstance(other, Waits) and self.room == other.room

    def __repr__(self):
        return f"Waits({self.room})"
