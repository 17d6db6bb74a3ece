"""What the tests of servers share."""

from support import PurseCase, facts

from surelet.houses import House
from surelet.rests import Window
from surelet.rules import Rule
from surelet.servers import Server
from surelet.trees import Place, Tree

# p stands on sa and sb: b, the drawer d of ann, and m and n in memory hang together on sb; q stands on sb alone.
P = Tree(
    Rule("p", 30, Window(10)), Place("a", "sa"), Place("b", "sb", "a"), Place("d", "sb", "b", customer="ann"),
    Place("m", "sb", "b", memory=True), Place("n", "sb", "d", memory=True, customer="ann"), Place("x", "sc", "b"),
)
Q = Tree(Rule("q", 8, Window(5)), Place("c", "sb"), Place("e", "sb", "c"))
R = Tree(Rule("r", 3, Window(7)), Place("a", "sa"))
HOUSE = House(
    R, P, Q, servers=[("sa", 1), ("sb", 2), ("sc", 0), ("sd", 3)],
    customers=[("firm", None, 2, ["p"]), ("ann", "firm", 3, ["q"]), ("bob", None, 1, ["q"]), ("cid", None, 4, []),
               ("dan", None, 1, ["r"]), ("eve", "bob", 6, ["p"])],
    rooms=[("hall", "sa"), ("desk", "sb"), ("attic", "sb"), ("full", "sb")],
)


def lent(rows=16):
    """The server sb, which has 20 chips of p at b until 90 and all of q at c."""
    server = Server(HOUSE, "sb", rows=rows)
    server.receive(0, ("lend", "p", "b", 4, 20, 90))
    return server


def shown(server):
    """All that a server tells."""
    disk = server.disk()
    found = [server.name, server.fallen, server.syncs, disk.table(), disk.areas(), disk.unsynced(), disk.syncs]
    if server.fallen:
        return found
    for rule in HOUSE.rules():
        if server.name in HOUSE.tree_of(rule).servers():
            found += facts(server.purse(rule))
    for room in HOUSE.rooms(server.name):
        found += [server.waiting_in(room), server.head_of(room)]
        found += [server.mark_in(room, customer) for customer in HOUSE.customers()]
    return found


class ServerCase(PurseCase):
    """A test case that looks at what a refused operation of a server leaves."""

    def stays(self, server, error, values, call, *args, **named):
        """The call raises this error, and nothing of the server is changed."""
        ahead = shown(server)
        self.check_error(error, values, call, *args, **named)
        self.check_same(shown(server), ahead)

    def in_order(self, server, call, good, faults):
        """Each fault alone, and the first one of each two that change other arguments.

        Faults are told in their order, as the error, its values and the arguments that are changed.
        """
        for at, (error, values, changed) in enumerate(faults):
            self.stays(server, error, values, call, **{**good, **changed})
            for _, _, other in faults[at + 1:]:
                if not set(changed) & set(other):
                    self.stays(server, error, values, call, **{**good, **other, **changed})
