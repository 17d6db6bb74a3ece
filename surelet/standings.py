"""What the living lots of a stock are: the order in which they pay, and how they stand."""

from surelet.lots import end_key


def paying_order(stock, path, high):
    """The pairs (place, lot) of the living lots that pay for a path, in the order in which they pay."""
    rows = []
    for at, place in enumerate(stock.tree.places()):
        rank = customer_rank(place, path)
        if stock.is_here(place.name) and rank is not None:
            for lot in stock.shelves[place.name].values():
                if lot.lives(high):
                    key = (rank, not place.memory, end_key(lot.end), at, lot.number)
                    rows.append((key, place.name, lot))
    return [(name, lot) for _, name, lot in sorted(rows, key=lambda row: row[0])]


def customer_rank(place, path):
    """The turn of a place among those that pay for a path, None if it does not pay."""
    if place.customer is None:
        return len(path)
    if place.customer in path:
        return list(path).index(place.customer)
    return None


def standing_of(stock, high):
    """The rows of the living lots, in the order of the tree and then of what they are."""
    rows = []
    for at, place in enumerate(stock.shelves):
        lots = [lot for lot in stock.shelves[place].values() if lot.lives(high)]
        rows = rows + [(at, standing_row(place, lot)) for lot in lots]
    return tuple([row for _, row in sorted(rows, key=row_key)])


def standing_row(place, lot):
    """How a lot stands."""
    loans = sorted([(loan.child, loan.n, loan.end, loan.until) for loan in lot.loans], key=none_as_zero)
    return (place, lot.end, lot.until, lot.ready, lot.resting, tuple(loans))


def row_key(pair):
    """A key by which rows are ordered, from the index of the place and the row."""
    at, (_, end, until, ready, resting, loans) = pair
    return (at, end or 0, until or 0, ready, resting, [none_as_zero(loan) for loan in loans])


def none_as_zero(items):
    """The same items, but 0 for None."""
    return tuple([0 if item is None else item for item in items])
