"""Witnesses: runs that tell why a server had to say no."""

from surelet.copies import copied
from surelet.errors import InvalidNumber, Missing, NotLacking, NotSettled, SureletError
from surelet.events import is_of_rule, is_plain_event
from surelet.plain import Plain
from surelet.scripts import script_of
from surelet.words import is_from, is_whole


class Witness:
    """A run in which a server stands as it does, and in which a yes would break the rule; it takes any values."""

    def __init__(self, rule, server, reading, customer, asked, moment, events, extras, start):
        self.rule = copied(rule)
        self.server = copied(server)
        self.reading = copied(reading)
        self.customer = copied(customer)
        self.asked = copied(asked)
        self.moment = copied(moment)
        self.start = copied(start)
        self._events = copied(events)
        self._extras = copied(extras)

    def events(self):
        """The events, as a new list if they are a list or a tuple."""
        return listed(self._events)

    def extras(self):
        """The extra events, as a new list if they are a list or a tuple."""
        return listed(self._extras)

    def __eq__(self, other):
        return (isinstance(other, Witness) and self.rule == other.rule and self.server == other.server
                and self.reading == other.reading and self.customer == other.customer and self.asked == other.asked
                and self.moment == other.moment and self.start == other.start and self.events() == other.events()
                and self.extras() == other.extras())


def listed(value):
    """A copy of any value, as a list if it is a list or a tuple."""
    return copied(list(value)) if isinstance(value, (list, tuple)) else copied(value)


def witness(house, purse, customer, asked):
    """A right witness for a number above what a purse of a run of the house can pay for a customer, or for nobody."""
    path = path_of(house, customer)
    if not is_from(asked, 1):
        raise InvalidNumber(asked)
    if purse.last_reading is None:
        raise NotSettled()
    ready = purse.payable(path)
    if ready >= asked:
        raise NotLacking(ready)
    rule, server, reading, moment = purse.tree.rule.name, purse.server, purse.last_reading, purse.past
    script, moments = script_of(house, purse)
    extras = []
    for place in purse.tree.places():
        if place.server == server and not is_payable(place, path):
            for row in script.purse(server).lots(place.name):
                if row[3] > 0:
                    used = ("use", moment - purse.error, rule, place.name, row[3], row[0])
                    extras.append(("deed", moment, server, used))
    # All uses are from the start on, and the start has not rested at the moment.
    start = min([moment] + moments)
    return Witness(rule, server, reading, customer, asked, moment, script.rows(), extras, start)


def path_of(house, customer):
    """The path of a customer, empty for nobody."""
    return [] if customer is None else house.path(customer)


def is_payable(place, path):
    """Whether the chips of a place are for everybody or for a customer of the path."""
    return place.customer is None or place.customer in path


def judge_witness(house, witness, purse):
    """None if any value is a right witness for a purse, otherwise the word of its first fault."""
    if not is_formed(house, witness):
        return "form"
    tree = house.tree_of(witness.rule)
    plain = Plain(tree, {server: house.error_of(server) for server in tree.servers()})
    for event in witness.events():
        if event[1] > witness.moment or not is_let(plain, event):
            return "event"
    own = plain.purse(witness.server)
    if abs(witness.reading - witness.moment) > own.error or not is_settled(own, witness.reading):
        return "reading"
    if own.standing() != purse.standing():
        return "alike"
    pay_all(own, path_of(house, witness.customer), witness.asked)
    for event in witness.extras():
        if event[1] != witness.moment or not is_let(plain, event):
            return "extra"
    uses = plain.uses() + [(witness.moment, witness.asked)]
    return None if is_over(tree.rule, uses, witness.start) else "over"


def is_formed(house, value):
    """Whether any value is a witness with fields of the right kinds."""
    if not isinstance(value, Witness) or value.rule not in house.rules():
        return False
    if value.server not in house.tree_of(value.rule).servers():
        return False
    if value.customer is not None and value.customer not in house.customers():
        return False
    if not is_whole(value.reading) or not is_from(value.asked, 1):
        return False
    if not is_from(value.moment, 0) or not is_from(value.start, 0):
        return False
    if not are_events(value.events(), value.rule) or not are_events(value.extras(), value.rule):
        return False
    return all([event[3][0] == "use" for event in value.extras()])


def are_events(value, rule):
    """Whether any value is a list of events of a plain house of a rule."""
    return isinstance(value, list) and all([is_plain_event(event) and is_of_rule(event[3], rule) for event in value])


def is_let(plain, event):
    """Does an event in a plain house; returns whether it was not refused."""
    try:
        plain.do(event)
    except (SureletError, Missing):
        return False
    return True


def is_settled(purse, reading):
    """Settles a purse; returns whether it did not refuse the reading."""
    try:
        purse.settle(reading)
    except SureletError:
        return False
    return True


def pay_all(purse, path, asked):
    """Pays for a path what the purse can pay, but at most the asked number."""
    n = min(purse.payable(path), asked)
    if n > 0:
        purse.pay(purse.last_reading, path, n)


def is_over(rule, uses, start):
    """Whether the uses in the stretch of a start are more than the chips of the rule."""
    rest = rule.rest
    end = rest(start)
    return sum([n for moment, n in uses if start <= moment < end]) > rule.chips
