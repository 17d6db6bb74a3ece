"""Books: what each server says that it did of one rule, and whether these can all be true."""

from surelet.deeds import is_purse_deed, perform
from surelet.errors import Missing, SureletError, UnknownName
from surelet.events import is_of_rule, letter_sent
from surelet.purses import Purse
from surelet.words import is_whole


def judge_books(house, rule, books):
    """None if the books of all servers for a rule pass, otherwise the first fault (server, index, word)."""
    tree = house.tree_of(rule)
    unknown = [server for server in books if server not in house.servers()]
    if len(unknown) > 0:
        raise UnknownName(min(unknown, key=key_order))
    sent = {}
    for server in sorted(books):
        fault = play_book(house, tree, server, books[server], sent)
        if fault is not None:
            return (server, *fault)
    for server in sorted(books):
        for at, deed in enumerate(books[server]):
            if deed[0] == "receive" and deed[2] not in sent:
                return (server, at, "letter")
    return None


def key_order(key):
    """A key by which keys of any kinds are ordered: numbers, then others by their texts."""
    return (not is_whole(key), key if is_whole(key) else 0, str(key))


def play_book(house, tree, server, book, sent):
    """Plays a book on a new purse, and keeps what it sends; returns its first fault (index, word), None without one."""
    purse = None
    if server in tree.servers():
        purse = Purse(tree, server, house.error_of(server))
    for at, deed in enumerate(book):
        if purse is None or not is_purse_deed(deed) or not is_of_rule(deed, tree.rule.name):
            return at, "form"
        try:
            letter = letter_sent(deed, perform(purse, deed))
        except (SureletError, Missing):
            return at, "deed"
        if letter is not None:
            sent[letter] = True
    return None


def book_uses(book):
    """The uses of a list of deeds, as pairs of the index of the deed and its number."""
    return [(at, deed[4]) for at, deed in enumerate(book) if deed[0] == "use"]
