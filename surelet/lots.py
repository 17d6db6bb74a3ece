"""Lots and loans. They are never changed, but replaced by other ones, so that copies may share them."""


class Loan:
    """Chips of a lot that are lent to a child of its place."""

    def __init__(self, number, child, n, end, until=None, received=()):
        self.number = number
        self.child = child
        self.n = n
        self.end = end
        self.until = until
        self.received = received

    def row(self):
        """The loan as a tuple."""
        return (self.number, self.child, self.n, self.end, self.until, self.received)

    def less(self, n):
        """The same loan with n chips fewer."""
        return Loan(self.number, self.child, self.n - n, self.end, self.until, self.received)

    def prolonged(self, end):
        """The same loan with another end."""
        return Loan(self.number, self.child, self.n, end, self.until, self.received)

    def having_received(self, k):
        """The same loan, behind its letter back with the count k."""
        received = tuple(sorted([*self.received, k]))
        return Loan(self.number, self.child, self.n, self.end, self.until, received)


class Lot:
    """Chips of a place that came there together, and their loans in the order of their numbers."""

    def __init__(self, number, end, until, ready, resting=(), loans=(), sent=0):
        self.number = number
        self.end = end
        self.until = until
        self.ready = ready
        self.resting = resting
        self.loans = loans
        self.sent = sent

    def row(self):
        """The lot as a tuple."""
        loans = tuple([loan.row() for loan in self.loans])
        return (self.number, self.end, self.until, self.ready, self.resting, loans, self.sent)

    def lives(self, high):
        """Whether the chips may be used when the true moment is high at most."""
        return self.end is None or self.end > high

    def is_empty(self):
        """Whether the lot has neither chips nor loans."""
        return self.ready == 0 and len(self.resting) == 0 and len(self.loans) == 0

    def held(self):
        """How many ready and resting chips there are."""
        return self.ready + count_parts(self.resting)

    def parts(self):
        """The chips as parts: ready ones with the moment 0, also if there are none, then the resting ones."""
        return ((0, self.ready), *self.resting)

    def first_missing(self, parts):
        """The number of the first part that the lot does not have, None if it has them all."""
        held = dict(self.parts())
        for f, n in parts:
            if held.get(f, 0) < n:
                return n
        return None

    def with_parts(self, parts):
        """The same lot with these chips besides its own."""
        return self.with_chips([*self.parts(), *parts])

    def without_parts(self, parts):
        """The same lot without these chips, which it has."""
        return self.with_chips([*self.parts(), *[(f, -n) for f, n in parts]])

    def with_chips(self, parts):
        """The same lot with these chips instead of its own; parts with the same moment are added up."""
        held = {}
        for f, n in parts:
            held[f] = held.get(f, 0) + n
        ready = held.get(0, 0)
        resting = tuple(sorted([(f, n) for f, n in held.items() if f > 0 and n > 0]))
        return Lot(self.number, self.end, self.until, ready, resting, self.loans, self.sent)

    def with_loans(self, loans):
        """The same lot with these loans instead of its own; loans without chips are gone."""
        kept = tuple(sorted([loan for loan in loans if loan.n > 0], key=lambda loan: loan.number))
        return Lot(self.number, self.end, self.until, self.ready, self.resting, kept, self.sent)

    def with_loan(self, loan):
        """The same lot with this loan, instead of its own one with the same number if it has one."""
        return self.with_loans([*self.other_loans(loan.number), loan])

    def freed(self, pairs):
        """The same lot with the chips of some loans instead of these, as pairs of a loan and until when they rest."""
        gone = [loan.number for loan, _ in pairs]
        kept = [loan for loan in self.loans if loan.number not in gone]
        return self.with_loans(kept).with_parts([(f, loan.n) for loan, f in pairs])

    def with_end(self, end):
        """The same lot with another end."""
        return Lot(self.number, end, self.until, self.ready, self.resting, self.loans, self.sent)

    def with_sent(self, sent):
        """The same lot with another count of letters back."""
        return Lot(self.number, self.end, self.until, self.ready, self.resting, self.loans, sent)

    def other_loans(self, number):
        """The loans but the one with this number."""
        return [loan for loan in self.loans if loan.number != number]

    def loan_of(self, number):
        """The loan with this number, or None."""
        for loan in self.loans:
            if loan.number == number:
                return loan
        return None


def count_parts(parts):
    """How many chips there are in parts."""
    return sum([n for _, n in parts])


def ripened(parts, low, latest):
    """The parts, none of which rests longer than until latest; what rests until low or earlier is ready."""
    capped = [(min(f, latest), n) for f, n in parts]
    return [(f if f > low else 0, n) for f, n in capped]


def end_key(end):
    """A key by which ends are ordered, where no end is the greatest one."""
    return (end is None, end or 0)


def by_end(lots):
    """The lots with the least end first, then the least number."""
    return sorted(lots, key=lambda lot: (end_key(lot.end), lot.number))
