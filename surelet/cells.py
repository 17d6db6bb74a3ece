"""The texts of tables, records and cells, and how an area is read from its cells."""


def changes_text(changes):
    """The text of a table or a record: a dict from keys to strings, or None for keys that go."""
    texts = [f"{key}!;" if changes[key] is None else f"{key}={changes[key]};" for key in sorted(changes)]
    return "".join(texts)


def read_changes(text):
    """The changes with a text."""
    changes = {}
    for piece in text.split(";")[:-1]:
        key, mark, value = piece.partition("=")
        if mark == "":
            changes[key[:-1]] = None
        else:
            changes[key] = value
    return changes


def apply_changes(table, changes):
    """Makes the changes of a record in a table."""
    for key, value in changes.items():
        if value is None:
            table.pop(key, None)
        else:
            table[key] = value


def changes_between(old, new):
    """The changes that make a new table of an old one."""
    changes = {key: new[key] for key in new if old.get(key) != new[key]}
    for key in old:
        if key not in new:
            changes[key] = None
    return changes


def stretches(text, length):
    """A text, cut into stretches of a length; the last one may be shorter."""
    return [text[at:at + length] for at in range(0, len(text), length)]


def generation_of(cell):
    """The generation of a cell, 0 of a torn or an empty one."""
    if cell is None or cell == "":
        return 0
    return int(cell.split(" ")[1])


def read_area(cells):
    """The generation and the table of an area, (0, None) if it is not whole."""
    generation, count = head_of(cells)
    pieces = stretches_from(cells[1:count + 1], f"piece {generation}")
    if generation == 0 or len(pieces) < count:
        return 0, None
    table = read_changes("".join(pieces))
    for record in records_from(cells[count + 1:], generation):
        apply_changes(table, read_changes(record))
    return generation, table


def head_of(cells):
    """The generation and the number of pieces that the head of an area tells, (0, 0) if it has none."""
    if len(cells) == 0 or cells[0] is None or not cells[0].startswith("head "):
        return 0, 0
    _, generation, count = cells[0].split(" ")
    return int(generation), int(count)


def stretches_from(cells, start):
    """What stands behind this start and the numbers 1, 2 and so on in the first cells, as far as they have these."""
    found = []
    for cell in cells:
        begin = f"{start} {len(found) + 1} "
        if cell is None or not cell.startswith(begin):
            return found
        found.append(cell[len(begin):])
    return found


def records_from(cells, generation):
    """The texts of the records in the cells behind the pieces, as far as all their rows count."""
    records = []
    text = ""
    for row in stretches_from(cells, f"row {generation}"):
        follow, _, stretch = row.partition(" ")
        text = text + stretch
        if follow == "0":
            records.append(text)
            text = ""
    return records
