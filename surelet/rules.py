"""Rules, the uses that are within them, and rules against one another."""

from surelet.bounds import MOST_SIZE
from surelet.errors import InvalidName, InvalidNumber, InvalidRest, InvalidText, SureletError
from surelet.rests import Rest, Window, telling_moments
from surelet.resttexts import read_rest
from surelet.words import is_name, is_number, number_from

MOST_STEPS = 9


class Rule:
    """A number of chips under a name, each of which rests when it was used."""

    def __init__(self, name, chips, rest):
        if not is_name(name):
            raise InvalidName(name)
        if not is_number(chips, 1, MOST_SIZE):
            raise InvalidNumber(chips)
        if not isinstance(rest, Rest):
            raise InvalidRest(rest)
        self.name = name
        self.chips = chips
        self.rest = rest

    def __str__(self):
        return f"{self.name} {self.chips} {self.rest}"

    def __eq__(self, other):
        return (isinstance(other, Rule) and self.name == other.name and self.chips == other.chips
                and self.rest == other.rest)


def read_rule(text):
    """The rule with this str; raises InvalidText for any value that is none."""
    if not isinstance(text, str):
        raise InvalidText(text)
    name, _, behind = text.partition(" ")
    chips, _, written = behind.partition(" ")
    try:
        return Rule(name, number_from(chips), read_rest(written))
    except SureletError:
        raise InvalidText(text) from None


def ladder(name, size, every, steps):
    """The rules that stand for a bucket of this size, into which one more comes back in each interval."""
    # The digit of a rule needs the eighth sign of its name.
    if not is_name(name) or len(name) > 7:
        raise InvalidName(name)
    for value in (size, every):
        if not is_number(value, 1, MOST_SIZE):
            raise InvalidNumber(value)
    if not is_number(steps, 1, MOST_STEPS) or size + steps - 1 > MOST_SIZE or every * steps > MOST_SIZE:
        raise InvalidNumber(steps)
    return [Rule(f"{name}{k}", size + k, Window((k + 1) * every)) for k in range(steps)]


def fullest(rest, uses):
    """The greatest sum of uses in a stretch, and the least moment of a use whose stretch has it."""
    rows = sorted(uses)
    best = (0, None)
    held = 0
    behind = 0
    # A rest never falls, so the end of the stretch only goes on from row to row.
    for moment, n in rows:
        end = rest(moment)
        while behind < len(rows) and rows[behind][0] < end:
            held += rows[behind][1]
            behind += 1
        if held > best[0]:
            best = (held, moment)
        held -= n
    return best


def is_within(rule, uses):
    """Whether no stretch has more uses than the rule has chips."""
    count, _ = fullest(rule.rest, uses)
    return count <= rule.chips


def breach(rule, other):
    """The first uses that are within the rule and not within the other one, None if there are none."""
    longer = other.rest
    # One more step than this, with all chips of the rule at each, is more than the other rule allows.
    allowed = other.chips // rule.chips
    for start in range(telling_moments(rule.rest, longer)):
        end = longer(start)
        if has_more_steps(rule.rest, start, end, allowed):
            return [(moment, rule.chips) for moment in rule.rest.steps(start, end)]
    return None


def has_more_steps(rest, start, end, allowed):
    """Whether the rest makes more than the allowed steps from the start on below the end."""
    count = 0
    for _ in rest.steps(start, end):
        count += 1
        if count > allowed:
            return True
    return False
