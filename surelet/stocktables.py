"""The tables of purses: dicts of strings, from which a stock can be made again."""

from surelet.lots import Loan, Lot
from surelet.stocks import Stock


def table_of(stock, past):
    """The table of a stock, with its keys ascending."""
    rule = stock.tree.rule.name
    table = {f"{rule} past": str(past), f"{rule} next": str(stock.following)}
    for number, end in stock.had.items():
        table[f"{rule} had {number}"] = str(end)
    for place, lot in stock.all_lots():
        if not stock.tree.place_of(place).memory:
            table[f"{rule} lot {place} {lot.number}"] = lot_text(lot)
    return {key: table[key] for key in sorted(table)}


def lot_text(lot):
    """The text of a lot: its numbers, its resting chips and its loans."""
    texts = [f"{written(lot.end)} {written(lot.until)} {lot.ready} {lot.sent}"]
    texts = texts + [f"rest {f} {n}" for f, n in lot.resting]
    for loan in lot.loans:
        received = ",".join([str(k) for k in loan.received]) or "-"
        dates = f"{written(loan.end)} {written(loan.until)}"
        texts.append(f"loan {loan.number} {loan.child} {loan.n} {dates} {received}")
    return " ".join(texts)


def written(moment):
    """The text of a moment or of None."""
    return "-" if moment is None else str(moment)


def read_back(word):
    """The moment or None with this text."""
    return None if word == "-" else int(word)


def stock_from(tree, server, table):
    """The stock and the past of a table, which may have keys of other rules."""
    stock = Stock(tree, server)
    rule = tree.rule.name
    stock.following = int(table[f"{rule} next"])
    for key, value in table.items():
        if key.startswith(f"{rule} had "):
            stock.had[int(key.split(" ")[2])] = int(value)
        elif key.startswith(f"{rule} lot "):
            _, _, place, number = key.split(" ")
            stock.put(place, lot_from(int(number), value))
    return stock, int(table[f"{rule} past"])


def lot_from(number, text):
    """The lot with a number and a text."""
    end, until, ready, sent, *words = text.split(" ")
    resting = []
    loans = []
    # What a piece is stands in its first word, and a place may have the same name, so pieces are taken whole.
    while len(words) > 0:
        if words[0] == "rest":
            resting.append((int(words[1]), int(words[2])))
            words = words[3:]
        else:
            loans.append(loan_from(words[1:7]))
            words = words[7:]
    return Lot(number, read_back(end), read_back(until), int(ready), tuple(resting), tuple(loans), int(sent))


def loan_from(words):
    """The loan with the words of its text."""
    number, child, n, end, until, received = words
    numbers = [] if received == "-" else received.split(",")
    return Loan(int(number), child, int(n), read_back(end), read_back(until), tuple([int(k) for k in numbers]))
