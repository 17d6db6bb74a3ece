"""The stock of a purse: its lots, place by place, and what happens to them."""

from surelet.lots import Loan, Lot, count_parts, ripened


class Stock:
    """The lots of the places of one server, the number of the next loan and the remembered numbers."""

    def __init__(self, tree, server):
        self.tree = tree
        self.server = server
        # A shelf has the lots of one place, by their numbers.
        self.shelves = {place.name: {} for place in tree.places() if place.server == server}
        self.following = 1
        self.had = {}

    def copied(self):
        """A stock that shares nothing with this one but what never changes."""
        other = Stock(self.tree, self.server)
        other.shelves = {place: dict(shelf) for place, shelf in self.shelves.items()}
        other.following = self.following
        other.had = dict(self.had)
        return other

    def is_here(self, place):
        """Whether a place of the tree is on this server."""
        return place in self.shelves

    def is_far(self, loan):
        """Whether a loan is one to another server."""
        return loan.child not in self.shelves

    def elder_of(self, place):
        """The name of the elder of a place."""
        return self.tree.place_of(place).elder

    def rested_at(self, moment):
        """When a chip that was used at a moment has rested."""
        rest = self.tree.rule.rest
        return rest(moment)

    def all_lots(self):
        """The pairs (place, lot), in the order of the tree."""
        return [(place, lot) for place, shelf in self.shelves.items() for lot in shelf.values()]

    def put(self, place, lot):
        """Puts a lot on its shelf; an empty one goes, but for the lot of the first place."""
        if lot.is_empty() and lot.number != 0:
            self.shelves[place].pop(lot.number, None)
        else:
            self.shelves[place][lot.number] = lot

    def lender(self, place, number):
        """The lot that has the loan of a lot whose elder is on this server."""
        for lot in self.shelves[self.elder_of(place)].values():
            if lot.loan_of(number) is not None:
                return lot
        return None

    def far_loan(self, number):
        """The place and the lot that have the loan to another server with this number; (None, None) without it."""
        for place, lot in self.all_lots():
            loan = lot.loan_of(number)
            if loan is not None and self.is_far(loan):
                return place, lot
        return None, None

    def settle(self, low, high):
        """The five steps of settling, in their order."""
        self.fall_home(high)
        self.end_lots(low)
        self.ripen(low, high)
        self.end_loans(low)
        self.had = {number: end for number, end in self.had.items() if end > low}

    def fall_home(self, high):
        """Recalls each lot whose until is at most high."""
        due = [(place, lot.number) for place, lot in self.all_lots() if lot.until is not None and lot.until <= high]
        for place, number in due:
            # It is gone already if a lot above it was recalled ahead of it.
            if number in self.shelves[place]:
                self.recall(place, number)

    def end_lots(self, low):
        """Drops each lot whose end is at most low."""
        # Lots that have loans from one another on this server share their end, so no loan to a dropped lot stays.
        for place, shelf in list(self.shelves.items()):
            if not all([lot.lives(low) for lot in shelf.values()]):
                self.shelves[place] = {number: lot for number, lot in shelf.items() if lot.lives(low)}

    def ripen(self, low, high):
        """Lets no chip rest longer than one that is used now, and makes ready what has rested."""
        latest = self.rested_at(high)
        for place, lot in self.all_lots():
            if len(lot.resting) > 0:
                self.put(place, lot.with_chips(ripened(lot.parts(), low, latest)))

    def end_loans(self, low):
        """Makes the chips ready that were lent to other servers and have rested, wherever they were used."""
        for place, lot in self.all_lots():
            ended = [loan for loan in lot.loans if self.is_far(loan) and self.rested_at(loan.end - 1) <= low]
            if len(ended) > 0:
                self.put(place, lot.freed([(loan, 0) for loan in ended]))

    def recall(self, place, number):
        """Brings a lot, and all beneath it on this server, into the lot of its loan."""
        beneath = [loan for loan in self.shelves[place][number].loans if not self.is_far(loan)]
        for loan in beneath:
            self.recall(loan.child, loan.number)
        lot = self.shelves[place].pop(number)
        lender = self.lender(place, number)
        loans = [*lender.other_loans(number), *lot.loans]
        self.put(self.elder_of(place), lender.with_loans(loans).with_parts(lot.parts()))

    def held(self):
        """How many chips there are, here or lent to other servers."""
        lots = [lot for _, lot in self.all_lots()]
        far = [loan.n for lot in lots for loan in lot.loans if self.is_far(loan)]
        return sum([lot.held() for lot in lots]) + sum(far)

    def pay(self, rows, n, high):
        """Uses n ready chips of the lots of pairs (place, lot), in their order; returns the payment."""
        until = self.rested_at(high)
        payment = []
        for place, lot in rows:
            taken = min(n, lot.ready)
            if taken > 0:
                payment.append((place, lot.number, taken))
                self.put(place, lot.without_parts([(0, taken)]).with_parts([(until, taken)]))
                n = n - taken
        return payment

    def lend(self, place, lot, child, n, until):
        """Lends n ready chips of a lot to a child; returns the number of the loan and its letter, or None."""
        number = self.following
        self.following += 1
        left = lot.without_parts([(0, n)])
        if self.is_here(child):
            falls = lot.until if until is None else until
            self.put(place, left.with_loan(Loan(number, child, n, None, falls)))
            self.put(child, Lot(number, lot.end, falls, n))
            return number, None
        self.put(place, left.with_loan(Loan(number, child, n, until)))
        return number, ("lend", self.tree.rule.name, child, number, n, until)

    def prolong(self, place, lot, number, end):
        """Gives a loan to another server a later end; returns the letter."""
        loan = lot.loan_of(number)
        self.put(place, lot.with_loan(loan.prolonged(end)))
        return ("extend", self.tree.rule.name, loan.child, number, end)

    def give_back(self, place, lot, parts):
        """Gives parts of a lot to the elder of its place; returns the letter, None if the elder is on this server."""
        left = lot.without_parts(parts)
        elder = self.elder_of(place)
        if self.is_here(elder):
            lender = self.lender(place, lot.number)
            loan = lender.loan_of(lot.number)
            self.put(place, left)
            self.put(elder, lender.with_loan(loan.less(count_parts(parts))).with_parts(parts))
            return None
        k = lot.sent + 1
        self.put(place, left.with_sent(k))
        return ("back", self.tree.rule.name, place, lot.number, k, parts)

    def take_lend(self, letter, low):
        """Makes the lot of a letter; returns whether it did."""
        _, _, top, number, n, end = letter
        if end <= low or number in self.had or number in self.shelves[top]:
            return False
        self.put(top, Lot(number, end, None, n))
        self.had[number] = end
        return True

    def take_extend(self, letter):
        """Gives a lot of the top, and all beneath it, the later end of a letter; returns whether it did."""
        _, _, top, number, end = letter
        lot = self.shelves[top].get(number)
        if lot is None or lot.end >= end:
            return False
        self.set_end(top, number, end)
        return True

    def set_end(self, place, number, end):
        """Gives a lot, and all beneath it on this server, another end."""
        lot = self.shelves[place][number]
        self.put(place, lot.with_end(end))
        for loan in lot.loans:
            if not self.is_far(loan):
                self.set_end(loan.child, loan.number, end)

    def take_back(self, letter, low, high):
        """Brings the parts of a letter into the lot of their loan; returns whether it did."""
        _, _, child, number, k, parts = letter
        place, lot = self.far_loan(number)
        if lot is None:
            return False
        loan = lot.loan_of(number)
        n = count_parts(parts)
        if loan.child != child or k in loan.received or n > loan.n:
            return False
        latest = min(self.rested_at(high), self.rested_at(loan.end - 1))
        left = lot.with_loan(loan.less(n).having_received(k))
        self.put(place, left.with_parts(ripened(parts, low, latest)))
        return True

    def strand(self, high):
        """Lets the chips rest that were lent to places in memory, since memory is gone and they may have been used."""
        for place, lot in self.all_lots():
            lost = [loan for loan in lot.loans if self.tree.place_of(loan.child).memory]
            lasts = [high if loan.until is None else min(high, loan.until - 1) for loan in lost]
            self.put(place, lot.freed([(loan, self.rested_at(last)) for loan, last in zip(lost, lasts)]))
