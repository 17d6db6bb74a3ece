"""How the purses of a server pay for requests, and how its rooms are served."""

from surelet.answers import Behind, No, Waits, Yes


def answer_request(house, purses, reading, customer, cost):
    """Pays for a request if all its path rules have enough; returns Yes or No."""
    path = house.path(customer)
    rules = house.path_rules(customer)
    for rule in rules:
        ready = purses[rule].payable(path) if rule in purses else 0
        if ready < cost:
            return No(rule, ready, cost)
    paid = []
    for rule in rules:
        payment = purses[rule].pay(reading, path, cost)
        paid = paid + [(rule, place, number, n) for place, number, n in payment]
    return Yes(tuple(paid))


def answer_entry(house, purses, reading, name, room, request):
    """Answers a request (customer, cost, until) that enters a room with a name."""
    customer, cost, until = request
    head = room.head
    if head is None:
        answer = answer_request(house, purses, reading, customer, cost)
        if isinstance(answer, Yes):
            room.join(customer, cost)
            room.serve()
            return answer
        if until is None:
            return answer
    elif until is None:
        return Behind(head[0])
    room.join(customer, cost, until)
    return Waits(name)


def serve_rooms(house, purses, reading, rooms):
    """Serves the heads of all rooms that can be paid; returns the triples (room, customer, Yes)."""
    served = []
    for name in sorted(rooms):
        room = rooms[name]
        going = True
        while going and room.head is not None:
            customer, cost, _ = room.head
            answer = answer_request(house, purses, reading, customer, cost)
            going = isinstance(answer, Yes)
            if going:
                room.serve()
                served.append((name, customer, answer))
    return served


def paid_by(answer):
    """The tuples (rule, place, number, n) that an answer paid."""
    return answer.paid if isinstance(answer, Yes) else ()


def sums_paid(deed, answer):
    """The pairs (rule, n) of what a deed let by, by what it returned: one for a use, or for each rule of a request."""
    if deed[0] == "use":
        return [(deed[2], deed[4])]
    answers = [answer]
    if deed[0] == "tick":
        answers = [served for _, _, served in answer]
    sums = []
    for one in answers:
        paid = {}
        for rule, _, _, n in paid_by(one):
            paid[rule] = paid.get(rule, 0) + n
        sums = sums + list(paid.items())
    return sums


def leave_rooms(rooms, reading):
    """Lets the requests go that wait no longer, in all rooms."""
    for room in rooms.values():
        room.leave(reading)


def is_served(house, purses, reading, rooms, name):
    """Whether a tick with this reading, on these purses and rooms, serves what is now the head of the room name."""
    _, _, until = rooms[name].head
    # Behind its until it has left, and what is served is another request.
    if until < reading:
        return False
    for purse in purses.values():
        purse.settle(reading)
    leave_rooms(rooms, reading)
    served = serve_rooms(house, purses, reading, rooms)
    return name in [room for room, _, _ in served]


def telling_readings(purses, rooms, reading):
    """The readings, this one and later ones, among which the first is at which a tick serves a head."""
    found = [reading]
    for purse in purses.values():
        found = found + turning_readings(purse)
    for room in rooms.values():
        # Who waits in a room of a server has an until.
        found = found + [until + 1 for _, _, until in room.waiting()]
    return sorted(set([tried for tried in found if tried >= reading]))


def turning_readings(purse):
    """The readings at which a chip of a purse gets ready, or a lot ends or falls home."""
    error = purse.error
    rest = purse.tree.rule.rest
    found = []
    for place in purse.tree.places():
        if place.server == purse.server:
            for _, end, until, _, resting, loans, _ in purse.lots(place.name):
                found = found + [f + error for f, _ in resting]
                found = found + [moment - error for moment in (end, until) if moment is not None]
                # Only loans to other servers have an end of their own.
                ends = [loan[3] for loan in loans if loan[3] is not None]
                found = found + [rest(lent - 1) + error for lent in ends]
    return found
