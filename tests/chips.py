"""A purse that is told chip by chip, against which the purses of the package are compared."""


class Wrong(Exception):
    """An error of a purse, as its name and values."""

    def __init__(self, word, *values):
        super().__init__(word, *values)
        self.word = word
        self.values = values


def number(value):
    return type(value) is int


class Chips:
    """Each chip is a list [lot, f, loan]: where it is, until when it rests (0: ready) and in which far loan it is."""

    def __init__(self, tree, server, error):
        self.tree, self.server, self.error = tree, server, error
        self.rest = tree.rule.rest
        self.order = [place.name for place in tree.places()]
        self.here = [place.name for place in tree.places() if place.server == server]
        self.first = self.order[0]
        self.lots = {}
        self.loans = {}
        self.chips = []
        self.had = {}
        self.count = 0
        self.low, self.reading = 0, None
        if self.first in self.here:
            self.lots[self.first, 0] = {"end": None, "until": None, "sent": 0, "from": None}
            self.chips = [[(self.first, 0), 0, None] for _ in range(tree.rule.chips)]

    def copy(self):
        other = Chips(self.tree, self.server, self.error)
        other.lots = {key: dict(lot) for key, lot in self.lots.items()}
        other.loans = {key: {**loan, "got": set(loan["got"])} for key, loan in self.loans.items()}
        other.chips = [list(chip) for chip in self.chips]
        other.had = dict(self.had)
        other.count, other.low, other.reading = self.count, self.low, self.reading
        return other

    # What there is.

    def ready(self, key):
        return [chip for chip in self.chips if chip[0] == key and chip[1] == 0 and chip[2] is None]

    def resting(self, key, f):
        return [chip for chip in self.chips if chip[0] == key and chip[1] == f > 0 and chip[2] is None]

    def beneath(self, key):
        """The keys of the lot and of all that come from it on this server."""
        keys = [key]
        for other, lot in self.lots.items():
            if lot["from"] == key:
                keys += self.beneath(other)
        return keys

    def shown_loans(self, key):
        rows = []
        for told, loan in self.loans.items():
            if loan["home"] == key:
                n = len([chip for chip in self.chips if chip[2] == told])
                rows.append((told, loan["child"], n, loan["end"], None, tuple(sorted(loan["got"]))))
        for (place, told), lot in self.lots.items():
            if lot["from"] == key:
                n = len([chip for chip in self.chips if chip[0] in self.beneath((place, told))])
                rows.append((told, place, n, None, lot["until"], ()))
        return tuple(sorted(rows))

    def shown(self, key):
        lot = self.lots[key]
        moments = sorted({chip[1] for chip in self.chips if chip[0] == key and chip[2] is None} - {0})
        resting = tuple((f, len(self.resting(key, f))) for f in moments)
        return (key[1], lot["end"], lot["until"], len(self.ready(key)), resting, self.shown_loans(key), lot["sent"])

    def shown_lots(self, place):
        return [self.shown(key) for key in sorted(self.lots) if key[0] == place]

    def table(self):
        rule = self.tree.rule.name
        told = {f"{rule} past": str(self.low), f"{rule} next": str(self.count + 1)}
        for key, end in self.had.items():
            told[f"{rule} had {key}"] = str(end)
        for place, key in self.lots:
            if not self.tree.place_of(place).memory:
                _, end, until, ready, resting, loans, sent = self.shown((place, key))
                words = [end, until, ready, sent]
                for f, n in resting:
                    words += ["rest", f, n]
                for loan in loans:
                    words += ["loan", *loan[:5], ",".join(map(str, loan[5])) or None]
                told[f"{rule} lot {place} {key}"] = " ".join("-" if word is None else str(word) for word in words)
        return told

    def living(self):
        high = None if self.reading is None else self.reading + self.error
        return [key for key, lot in self.lots.items() if high is None or lot["end"] is None or lot["end"] > high]

    def standing(self):
        def zero(row):
            return tuple(0 if item is None else item for item in row)
        rows = []
        for key in self.living():
            _, end, until, ready, resting, loans, _ = self.shown(key)
            loans = tuple(sorted((loan[1:5] for loan in loans), key=zero))
            order = (self.order.index(key[0]), end or 0, until or 0, ready, resting, tuple(zero(x) for x in loans))
            rows.append((order, (key[0], end, until, ready, resting, loans)))
        return self.reading, tuple(row for _, row in sorted(rows, key=lambda pair: pair[0]))

    def payers(self, path):
        """The keys of the living lots that pay, in their order."""
        rows = []
        for key in self.living():
            place = self.tree.place_of(key[0])
            if place.customer is None or place.customer in path:
                turn = len(path) if place.customer is None else path.index(place.customer)
                end = self.lots[key]["end"]
                end = 10 ** 30 if end is None else end
                rows.append((turn, 0 if place.memory else 1, end, self.order.index(key[0]), key[1], key))
        return [row[-1] for row in sorted(rows)]

    # Settling.

    def start(self, reading):
        if reading + self.error < self.low:
            raise Wrong("BadReading", self.server, reading)
        self.high = reading + self.error
        self.low = max(0, reading - self.error, self.low)
        self.reading = reading
        while True:
            due = [key for key, lot in self.lots.items() if lot["until"] is not None and lot["until"] <= self.high]
            if not due:
                break
            self.go_home(due[-1])
        gone = [key for key, lot in self.lots.items() if lot["end"] is not None and lot["end"] <= self.low]
        for key in gone:
            del self.lots[key]
        self.chips = [chip for chip in self.chips if chip[0] not in gone]
        for chip in self.chips:
            if chip[2] is None:
                chip[1] = min(chip[1], self.rest(self.high))
                if chip[1] <= self.low:
                    chip[1] = 0
        for told, loan in self.loans.items():
            if self.rest(loan["end"] - 1) <= self.low:
                for chip in self.chips:
                    if chip[2] == told:
                        chip[1:] = [0, None]
        self.had = {key: end for key, end in self.had.items() if end > self.low}
        self.clean()

    def clean(self):
        self.loans = {told: loan for told, loan in self.loans.items() if any(chip[2] == told for chip in self.chips)}
        for key in list(self.lots):
            if key != (self.first, 0) and not any(chip[0] in self.beneath(key) for chip in self.chips):
                del self.lots[key]

    def go_home(self, key):
        for other in [other for other, lot in self.lots.items() if lot["from"] == key]:
            self.go_home(other)
        home = self.lots.pop(key)["from"]
        for chip in self.chips:
            if chip[0] == key:
                chip[0] = home
        for loan in self.loans.values():
            if loan["home"] == key:
                loan["home"] = home

    # Operations; a wrong one may leave this object spoilt, so they are called on copies.

    def check_place(self, place):
        if not isinstance(place, str) or place not in self.here:
            raise Wrong("UnknownName", place)

    def check_lot(self, place, lot):
        if not number(lot) or (place, lot) not in self.lots:
            raise Wrong("UnknownLot", place, lot)

    def keys(self, place, lot):
        """The keys of the lots that are meant, the least end first."""
        if lot is not None:
            self.check_lot(place, lot)
        found = [key for key in self.lots if key[0] == place and lot in (None, key[1])]
        return sorted(found, key=lambda key: (self.lots[key]["end"] is None, self.lots[key]["end"] or 0, key[1]))

    def take(self, keys, n, who):
        if not number(n) or n < 1 or n > sum(len(self.ready(key)) for key in keys):
            raise Wrong("NotHeld", who, n)
        payment = []
        for key in keys:
            used = self.ready(key)[:n]
            n -= len(used)
            for chip in used:
                chip[1] = self.rest(self.high)
            if used:
                payment.append((*key, len(used)))
        return payment

    def settle(self, reading):
        self.start(reading)

    def use(self, reading, place, n, lot):
        self.start(reading)
        self.check_place(place)
        return self.take([key for key in self.keys(place, lot) if key in self.living()], n, place)

    def pay(self, reading, path, n):
        self.start(reading)
        return self.take(self.payers(path), n, self.tree.rule.name)

    def lend(self, reading, place, child, n, until, lot):
        self.start(reading)
        self.check_place(place)
        if not isinstance(child, str) or child not in self.order or self.tree.place_of(child).elder != place:
            raise Wrong("UnknownName", child)
        near = child in self.here
        if near and until is not None and not (number(until) and until > self.high):
            raise Wrong("Over", until)
        if not near and not (number(until) and until > self.low):
            raise Wrong("Over", until)
        keys = [key for key in self.keys(place, lot) if number(n) and 1 <= n <= len(self.ready(key))]
        if not keys:
            raise Wrong("NotHeld", place, n)
        keys = [key for key in keys if near or self.lots[key]["end"] is None or self.lots[key]["end"] >= until]
        if not keys:
            raise Wrong("Over", until)
        key = keys[0]
        self.count += 1
        chips = self.ready(key)[:n]
        if near:
            end = self.lots[key]["end"]
            falls = until if until is not None else self.lots[key]["until"]
            self.lots[child, self.count] = {"end": end, "until": falls, "sent": 0, "from": key}
            for chip in chips:
                chip[0] = (child, self.count)
            return self.count, None
        self.loans[self.count] = {"child": child, "end": until, "got": set(), "home": key}
        for chip in chips:
            chip[2] = self.count
        return self.count, ("lend", self.tree.rule.name, child, self.count, n, until)

    def prolong(self, reading, told, until):
        self.start(reading)
        if not number(told) or told not in self.loans:
            raise Wrong("UnknownLoan", told)
        loan = self.loans[told]
        end = self.lots[loan["home"]]["end"]
        if not number(until) or until <= self.low or until <= loan["end"] or end is not None and until > end:
            raise Wrong("Over", until)
        loan["end"] = until
        return ("extend", self.tree.rule.name, loan["child"], told, until)

    def give(self, reading, place, lot, parts):
        self.start(reading)
        self.check_place(place)
        self.check_lot(place, lot)
        if place == self.first:
            raise Wrong("NoElder", place)
        if not good_parts(parts):
            raise Wrong("InvalidParts", parts)
        key = (place, lot)
        moved = []
        for f, n in parts:
            held = self.resting(key, f) if f else self.ready(key)
            if len(held) < n:
                raise Wrong("NotHeld", place, n)
            moved += held[:n]
        home = self.lots[key]["from"]
        letter = None
        if home is None:
            self.lots[key]["sent"] += 1
            letter = ("back", self.tree.rule.name, place, lot, self.lots[key]["sent"], tuple(parts))
            self.chips = [chip for chip in self.chips if not any(chip is gone for gone in moved)]
        for chip in moved:
            chip[0] = home
        self.clean()
        return letter

    def recall(self, reading, place, lot):
        self.start(reading)
        self.check_place(place)
        self.check_lot(place, lot)
        if place == self.here[0]:
            raise Wrong("NoElder", place)
        self.go_home((place, lot))

    def receive(self, reading, letter):
        self.start(reading)
        if not self.good_letter(letter):
            raise Wrong("WrongLetter", letter)
        word, _, place, told, *items = letter
        if word == "lend":
            n, end = items
            if end <= self.low or told in self.had or (place, told) in self.lots:
                return False
            self.lots[place, told] = {"end": end, "until": None, "sent": 0, "from": None}
            self.chips += [[(place, told), 0, None] for _ in range(n)]
            self.had[told] = end
            return True
        if word == "extend":
            if (place, told) not in self.lots or self.lots[place, told]["end"] >= items[0]:
                return False
            for key in self.beneath((place, told)):
                self.lots[key]["end"] = items[0]
            return True
        k, parts = items
        lent = [chip for chip in self.chips if chip[2] == told]
        loan = self.loans.get(told)
        if loan is None or loan["child"] != place or k in loan["got"] or sum(n for _, n in parts) > len(lent):
            return False
        loan["got"].add(k)
        for f, n in parts:
            for chip in lent[:n]:
                chip[1] = min(f, self.rest(self.high), self.rest(loan["end"] - 1))
                chip[1] = 0 if chip[1] <= self.low else chip[1]
                chip[2] = None
            lent = lent[n:]
        self.clean()
        return True

    def good_letter(self, letter):
        sizes = {"lend": 6, "extend": 5, "back": 6}
        if type(letter) is not tuple or not letter or not isinstance(letter[0], str):
            return False
        if len(letter) != sizes.get(letter[0]) or letter[1] != self.tree.rule.name:
            return False
        if not isinstance(letter[2], str) or letter[2] not in self.order[1:]:
            return False
        place = self.tree.place_of(letter[2])
        elder = self.tree.place_of(place.elder)
        if place.server == elder.server or self.server != (elder if letter[0] == "back" else place).server:
            return False
        numbers = letter[3:5] if letter[0] == "back" else letter[3:]
        if letter[0] == "back" and not (type(letter[5]) is tuple and good_parts(letter[5])):
            return False
        return all(number(value) and value >= 1 for value in numbers)


def good_parts(parts):
    if type(parts) not in (list, tuple) or not parts:
        return False
    for part in parts:
        if type(part) is not tuple or len(part) != 2 or not number(part[0]) or not number(part[1]):
            return False
    moments = [f for f, _ in parts]
    return moments[0] >= 0 and moments == sorted(set(moments)) and all(n >= 1 for _, n in parts)


def restored(tree, server, error, table, reading):
    """The purse of a table; the chips that were lent to memory rest."""
    made = Chips(tree, server, error)
    rule = tree.rule.name
    made.lots, made.chips = {}, []
    made.low, made.count = int(table[f"{rule} past"]), int(table[f"{rule} next"]) - 1
    if reading + error < made.low:
        raise Wrong("BadReading", server, reading)
    senders = {}
    for key, value in table.items():
        words = key.split(" ")
        if words[0] == rule and words[1] == "had":
            made.had[int(words[2])] = int(value)
        if words[0] == rule and words[1] == "lot":
            place = (words[2], int(words[3]))
            items = value.split(" ")
            end, until = [None if word == "-" else int(word) for word in items[:2]]
            made.lots[place] = {"end": end, "until": until, "sent": int(items[3]), "from": None}
            made.chips += [[place, 0, None] for _ in range(int(items[2]))]
            items = items[4:]
            while items:
                if items[0] == "rest":
                    made.chips += [[place, int(items[1]), None] for _ in range(int(items[2]))]
                    items = items[3:]
                    continue
                told, child, n = int(items[1]), items[2], int(items[3])
                if tree.place_of(child).memory:
                    last = reading + error if items[5] == "-" else min(reading + error, int(items[5]) - 1)
                    made.chips += [[place, tree.rule.rest(last), None] for _ in range(n)]
                elif child in made.here:
                    senders[child, told] = place
                else:
                    got = set() if items[6] == "-" else set(map(int, items[6].split(",")))
                    made.loans[told] = {"child": child, "end": int(items[4]), "got": got, "home": place}
                    made.chips += [[place, 0, told] for _ in range(n)]
                items = items[7:]
    for key, home in senders.items():
        made.lots[key]["from"] = home
    made.start(reading)
    return made
