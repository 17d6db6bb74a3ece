"""How a run is written in which a server stands as it does, and all chips that it does not have were used late."""

from surelet.plain import Plain


class Script:
    """Events of a plain house, which are written down while they are done, and uses that shall follow them."""

    def __init__(self, tree, errors, now):
        self.tree = tree
        self._errors = errors
        self._now = now
        self._plain = Plain(tree, errors)
        self._rows = []
        self._coming = []

    def act(self, moment, reading, server, word, *told):
        """Does a deed on a server; returns what it returns."""
        event = ("deed", moment, server, (word, reading, *told))
        answer = self._plain.do(event)
        self._rows.append(event)
        return answer

    def lend(self, place, lot, child, n, until):
        """Lends from a lot at the moment 0, and carries the letter at once; returns the number of the new lot."""
        server = self.server_of(place)
        rule = self.tree.rule.name
        number, letter = self.act(0, -self._errors[server], server, "lend", rule, place, child, n, until, lot)
        if letter is not None:
            other = self.server_of(child)
            self.act(0, -self._errors[other], other, "carry", len(self._plain.letters()) - 1)
        return number

    def lend_along(self, way, lot, n, end):
        """Lends from a lot at the beginning of a way, place by place; returns the numbers of all lots along it."""
        lots = [lot]
        for place, child in zip(way, way[1:]):
            until = None if self.server_of(place) == self.server_of(child) else end
            lots.append(self.lend(place, lots[-1], child, n, until))
        return lots

    def recall(self, place, lot):
        """Recalls a lot at the moment 0."""
        server = self.server_of(place)
        self.act(0, -self._errors[server], server, "recall", self.tree.rule.name, place, lot)

    def use_later(self, high, place, lot, n):
        """Lets a use follow whose chips rest as if they had been used at the moment high, though it may be sooner."""
        self._coming.append((min(high, self._now), high, place, lot, n))

    def finish(self):
        """Does the uses that shall follow, in the order of their moments; returns the moments."""
        coming = sorted(self._coming)
        for moment, high, place, lot, n in coming:
            server = self.server_of(place)
            self.act(moment, high - self._errors[server], server, "use", self.tree.rule.name, place, n, lot)
        return [row[0] for row in coming]

    def server_of(self, place):
        """The server of a place."""
        return self.tree.place_of(place).server

    def purse(self, server):
        """The purse of a server, as the events have left it."""
        return self._plain.purse(server)

    def rows(self):
        """The events that were done."""
        return list(self._rows)


def script_of(house, purse):
    """A script behind which a purse stands as this one does; and the moments of its uses."""
    tree = purse.tree
    errors = {server: house.error_of(server) for server in tree.servers()}
    script = Script(tree, errors, purse.past)
    top = tree.top(purse.server)
    first = tree.places()[0].name
    way = list(tree.way_up(top))[::-1]
    left = tree.rule.chips
    for row in living_rows(purse, top):
        n = chips_of(row)
        lots = script.lend_along(way, 0, n, row[1])
        stage(script, purse, top, row, lots[-1])
        left = left - n
    if left > 0:
        script.use_later(purse.past, first, 0, left)
    moments = script.finish()
    return script, moments


def living_rows(purse, place):
    """The lots of a place that live at the last reading of a purse, as they are shown."""
    high = purse.last_reading + purse.error
    return [row for row in purse.lots(place) if row[1] is None or row[1] > high]


def chips_of(row):
    """How many chips a lot has that is shown as a row, with those that are lent from it."""
    _, _, _, ready, resting, loans, _ = row
    return ready + sum([n for _, n in resting]) + sum([loan[2] for loan in loans])


def stage(script, purse, place, row, number):
    """Lends down all that is lent from a lot of the purse, and lets its resting chips be used; number is its twin."""
    _, _, _, _, resting, loans, _ = row
    for told, child, n, end, until, _ in loans:
        if end is None:
            lot = script.lend(place, number, child, n, until)
            stage(script, purse, child, purse.lot(child, told), lot)
        else:
            far = stage_far(script, place, number, child, n, end)
            script.use_later(min(end - 1, purse.past), child, far, n)
    high = purse.last_reading + purse.error
    rest = script.tree.rule.rest
    for f, n in resting:
        last = rest.latest(f)
        script.use_later(min(high, last), place, number, n)


def stage_far(script, place, number, child, n, end):
    """Lends from a lot of a place to a place beneath it on another server; returns the number of the lot there."""
    up = list(script.tree.way_up(child))
    way = up[:up.index(place) + 1][::-1]
    lots = script.lend_along(way, number, n, end)
    # The loan came home if it lies above the place that lent it: then the lots between were recalled.
    if len(way) > 2:
        script.recall(way[1], lots[1])
    return lots[-1]
