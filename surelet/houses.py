"""Houses: servers with their clocks, a tree for each rule, customers and rooms."""

from math import lcm

from surelet.bounds import (
    MOST_CUSTOMERS, MOST_ERROR, MOST_ROOMS, MOST_RULES, MOST_SERVERS, MOST_WEIGHT, check_count,
)
from surelet.errors import InvalidCustomer, InvalidRoom, InvalidServer, InvalidTree, UnknownName
from surelet.trees import Tree
from surelet.words import has_name, is_name, is_number, look_up


class House:
    """What stands fast for all runs: who there is, and which rules bind whom."""

    def __init__(self, *trees, servers, customers=(), rooms=()):
        self._errors = errors_from(servers)
        self._trees = trees_from(trees, self._errors)
        self._customers = customers_from(customers, self._trees)
        check_drawers(trees, self._customers)
        self._rooms = rooms_from(rooms, self._errors)
        self._scale = least_multiple([row[2] for row in self._customers.values()])

    def servers(self):
        """The names of the servers, ascending."""
        return sorted(self._errors)

    def rules(self):
        """The names of the rules, ascending."""
        return sorted(self._trees)

    def customers(self):
        """The names of the customers, ascending."""
        return sorted(self._customers)

    def error_of(self, server):
        """The error of the clock of a server."""
        return look_up(self._errors, server)

    def weight_of(self, customer):
        """The weight of a customer."""
        _, _, weight, _ = look_up(self._customers, customer)
        return weight

    def tree_of(self, rule):
        """The tree of a rule."""
        return look_up(self._trees, rule)

    def path(self, customer):
        """The customer, its elder and so on."""
        name, elder, _, _ = look_up(self._customers, customer)
        names = [name]
        while elder is not None:
            names.append(elder)
            _, elder, _, _ = self._customers[elder]
        return names

    def path_rules(self, customer):
        """The names of the rules of all customers of the path, ascending."""
        return sorted({rule for name in self.path(customer) for rule in self._customers[name][3]})

    def rooms(self, server):
        """The names of the rooms of a server, ascending."""
        look_up(self._errors, server)
        return sorted([room for room in self._rooms if self._rooms[room] == server])

    @property
    def scale(self):
        """The least common multiple of the weights of all customers."""
        return self._scale


def errors_from(servers):
    """A dict from the servers to the errors of their clocks."""
    if not isinstance(servers, (list, tuple)) or len(servers) == 0:
        raise InvalidServer(-1)
    errors = {}
    for at, row in enumerate(servers):
        if not is_pair(row) or not is_new(row[0], errors) or not is_number(row[1], 0, MOST_ERROR):
            raise InvalidServer(at)
        errors[row[0]] = row[1]
    check_count("servers", len(errors), MOST_SERVERS)
    return errors


def trees_from(trees, errors):
    """A dict from the names of the rules to their trees."""
    found = {}
    for at, tree in enumerate(trees):
        if not isinstance(tree, Tree) or tree.rule.name in found:
            raise InvalidTree(at)
        if not all([server in errors for server in tree.servers()]):
            raise InvalidTree(at)
        found[tree.rule.name] = tree
    check_count("rules", len(found), MOST_RULES)
    return found


def customers_from(customers, trees):
    """A dict from the names of the customers to their rows, the rules as tuples."""
    if not isinstance(customers, (list, tuple)):
        raise InvalidCustomer(-1)
    found = {}
    for at, row in enumerate(customers):
        if not is_customer(row, found, trees):
            raise InvalidCustomer(at)
        name, elder, weight, rules = row
        found[name] = (name, elder, weight, tuple(rules))
    check_count("customers", len(found), MOST_CUSTOMERS)
    return found


def rooms_from(rooms, errors):
    """A dict from the names of the rooms to their servers."""
    if not isinstance(rooms, (list, tuple)):
        raise InvalidRoom(-1)
    found = {}
    for at, row in enumerate(rooms):
        if not is_pair(row) or not is_new(row[0], found) or not has_name(errors, row[1]):
            raise InvalidRoom(at)
        found[row[0]] = row[1]
    check_count("rooms", len(found), MOST_ROOMS)
    return found


def check_drawers(trees, customers):
    """Raises UnknownName with the first customer of a place that the house does not have."""
    for tree in trees:
        for place in tree.places():
            if place.customer is not None and place.customer not in customers:
                raise UnknownName(place.customer)


def is_pair(value):
    """Whether any value is a tuple of two."""
    return isinstance(value, tuple) and len(value) == 2


def is_new(value, ahead):
    """Whether any value is a name that does not stand ahead."""
    return is_name(value) and value not in ahead


def is_customer(row, ahead, trees):
    """Whether any value tells a customer behind those ahead."""
    if not isinstance(row, tuple) or len(row) != 4:
        return False
    name, elder, weight, rules = row
    if not is_new(name, ahead) or not is_number(weight, 1, MOST_WEIGHT):
        return False
    if elder is not None and not has_name(ahead, elder):
        return False
    if not isinstance(rules, (list, tuple)) or not all([has_name(trees, rule) for rule in rules]):
        return False
    return len(set(rules)) == len(rules)


def least_multiple(numbers):
    """The least common multiple of numbers, 1 without any."""
    found = 1
    for number in numbers:
        found = lcm(found, number)
    return found
