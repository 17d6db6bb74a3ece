"""Random nets, demands and choices."""

from surelet.nets import Net
from surelet.rests import Days, Later, Next, Sooner, Window

RESTS = [Window(10), Days([3, 7, 20], 5), Next(Window(4), Days([], 6)), Later(Window(2), Days([9], 8)),
         Sooner(Window(12), Days([], 15)), Window(1), Window(25)]
NAMES = "a b c d e f g h i j k l".split()
# The example of [41].
EXAMPLE = Net(("a", None, 0, 0), ("b", "a", 1, 3), ("c", "a", 1, 2), rest=Window(10))
# A net with a long arm and a short one; the clock of b errs so much that kappa goes by places above it.
WIDE = Net(("a", None, 1, 0), ("b", "a", 9, 2), ("c", "b", 3, 4), ("d", "a", 2, 0), ("e", "c", 0, 1), rest=Window(7))


def some_rows(chance, most):
    """Rows of a net."""
    error, delay = chance.choice([0, 1, 3, 6]), chance.choice([0, 2, 8])
    rows = [("a", None, chance.randint(0, error), 0)]
    for at in range(1, chance.randint(1, most)):
        elder = chance.choice(NAMES[max(0, at - 3):at])
        rows.append((NAMES[at], elder, chance.randint(0, error), chance.randint(0, delay)))
    return rows


def some_net(chance, most=6):
    return Net(*some_rows(chance, most), rest=chance.choice(RESTS))


def some_demands(chance, net, count, span):
    """Demands that are not early, at readings up to span."""
    first, demands = net.names()[0], []
    while len(demands) < count:
        place, reading = chance.choice(net.names()), chance.randint(0, span)
        if place == first or reading - net.error_of(place) > net.dist(first, place):
            demands.append((place, reading))
    return demands


def some_moments(chance, net, demands, missing):
    """A moment for each demand, or None for some."""
    how = chance.choice(["any", "ends", "late", "soon"])
    moments = []
    for place, reading in demands:
        error = net.error_of(place)
        shift = {"any": chance.randint(-error, error), "ends": chance.choice([-error, error]), "late": error,
                 "soon": -error}[how]
        moments.append(None if chance.random() < missing else max(0, reading + shift))
    return moments


def some_choices(chance):
    """Numbers for choices: few or many, small or great."""
    how = chance.choice(["none", "any", "few", "ends", "slow"])
    many = {"none": 0, "any": 3000, "few": 30, "ends": 3000, "slow": 3000}[how]
    if how == "ends":
        return [chance.choice([0, 1, -1, 10 ** 9 - 1]) for _ in range(many)]
    if how == "slow":
        return [chance.choice([0, 0, 0, 5, -1]) for _ in range(many)]
    return [chance.randint(-20, 10 ** 6) for _ in range(many)]
