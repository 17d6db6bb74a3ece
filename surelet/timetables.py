"""Timetables: booked demands, and how many chips keep them all."""

from surelet.bounds import MOST_BOOKED, check_count
from surelet.errors import Early, InvalidRow
from surelet.matching import greatest_matching, reached_copies
from surelet.words import has_name, is_from, is_number


def leads(net, demand, other):
    """Whether the chip that one demand uses can keep another demand, too, however the clocks and letters go."""
    place, reading = demand
    target, wanted = other
    rest = net.rest
    rested = rest(reading + net.error_of(place))
    return wanted - net.error_of(target) > rested + net.kappa(place, target)


def needed(net, demands):
    """The least number of chips that keeps all demands."""
    return len(journeys(net, demands))


def journeys(net, demands):
    """As few journeys as possible that have each index of a demand exactly once."""
    check_demands(net, demands)
    befores = greatest_matching(lines_of(net, demands))
    afters = {before: at for at, before in enumerate(befores) if before is not None}
    found = []
    for at, before in enumerate(befores):
        if before is None:
            journey = [at]
            while journey[-1] in afters:
                journey.append(afters[journey[-1]])
            found.append(journey)
    return found


def clash(net, demands):
    """As many indexes of demands as there are journeys, of which none leads to another one."""
    check_demands(net, demands)
    lines = lines_of(net, demands)
    lefts, rights = reached_copies(lines, greatest_matching(lines))
    return [at for at in range(len(demands)) if at in lefts and at not in rights]


def lines_of(net, demands):
    """For each demand the list of the indexes of those to which it leads."""
    return [[at for at, other in enumerate(demands) if leads(net, demand, other)] for demand in demands]


def judge_journeys(net, demands, value):
    """None if any value is a list of journeys that have each index exactly once, otherwise the word of its fault."""
    check_demands(net, demands)
    if not isinstance(value, (list, tuple)) or not all([are_indexes(demands, journey) for journey in value]):
        return "form"
    told = [index for journey in value for index in journey]
    if len(set(told)) < len(told):
        return "twice"
    if not all([is_led(net, demands, journey) for journey in value]):
        return "lead"
    return "missing" if len(told) < len(demands) else None


def judge_clash(net, demands, value):
    """None if any value is a clash, otherwise the word of its fault."""
    check_demands(net, demands)
    if isinstance(value, (list, tuple)) and len(value) == 0:
        return None
    if not are_indexes(demands, value) or list(value) != sorted(set(value)):
        return "form"
    led = [leads(net, demands[index], demands[other]) for index in value for other in value]
    return "lead" if any(led) else None


def clash_moments(net, demands, clash):
    """For each demand of a clash the moment at which it comes in the one run, None for the others."""
    if judge_clash(net, demands, clash) is not None:
        raise InvalidRow(-1)
    return [clash_moment(net, demands, clash, at) if at in clash else None for at in range(len(demands))]


def clash_moment(net, demands, clash, at):
    """The moment at which a demand of a clash comes: as late as it may, yet ahead of what a chip of another allows."""
    place, reading = demands[at]
    rest = net.rest
    found = [reading + net.error_of(place)]
    for index in clash:
        if index != at:
            other, used = demands[index]
            found.append(rest(used + net.error_of(other)) + net.kappa(other, place))
    return min(found)


def check_demands(net, demands):
    """Raises the error of demands that are no timetable."""
    if not isinstance(demands, (list, tuple)):
        raise InvalidRow(-1)
    for at, demand in enumerate(demands):
        if not is_demand(net, demand):
            raise InvalidRow(at)
    check_count("booked", len(demands), MOST_BOOKED)
    for at, demand in enumerate(demands):
        if is_early(net, demand):
            raise Early(at)


def is_demand(net, value):
    """Whether any value is a pair of a place and a reading from 0 on."""
    return isinstance(value, tuple) and len(value) == 2 and has_name(net.errors(), value[0]) and is_from(value[1], 0)


def is_early(net, demand):
    """Whether a demand may come ahead of all chips, since its place is not the first one."""
    place, reading = demand
    first = net.names()[0]
    return place != first and reading - net.error_of(place) <= net.dist(first, place)


def are_indexes(demands, value):
    """Whether any value is a list of one or more indexes of demands."""
    if not isinstance(value, (list, tuple)) or len(value) == 0:
        return False
    return all([is_number(index, 0, len(demands) - 1) for index in value])


def is_led(net, demands, journey):
    """Whether each demand of a list of indexes leads to the next one."""
    return all([leads(net, demands[index], demands[after]) for index, after in zip(journey, journey[1:])])
