"""A disk that looks all up in its cells, against which the disks of the package are compared."""

import re


class Paper:
    """The cells are dicts: what is durable, and the unsynced writes on top of it."""

    def __init__(self, table, rows):
        self.rows = rows
        self.now = dict(table)
        self.durable = [{}, {}]
        self.loose = []
        self.syncs = 0
        self.fallen = False
        self.area = 1
        self.check(True)
        self.syncs = 0

    def cells(self, area):
        """What the cells of an area hold, with unsynced writes."""
        found = dict(self.durable[area])
        for where, at, text in self.loose:
            if where == area:
                found[at] = text
        return found

    def generation(self):
        """The generation of the head of the present area."""
        return int(self.cells(self.area)[0].split()[1])

    def pieces(self):
        return int(self.cells(self.area)[0].split()[2])

    def row_count(self):
        start = re.compile(f"row {self.generation()} ")
        return len([text for text in self.cells(self.area).values() if start.match(text)])

    def put(self, at, text):
        self.loose.append((self.area, at, text))

    def check(self, synced):
        if any(area == self.area and at == 0 for area, at, _ in self.loose):
            self.sync()
        texts = [text for area in (0, 1) for text in self.durable[area].values()]
        texts += [text for _, _, text in self.loose]
        generation = 1 + max([int(text.split()[1]) for text in texts if text] or [0])
        self.area = 1 - self.area
        parts = cut("".join(f"{key}={value};" for key, value in sorted(self.now.items())))
        for at, part in enumerate(parts, 1):
            self.put(at, f"piece {generation} {at} {part}")
        self.put(0, f"head {generation} {len(parts)}")
        if synced:
            self.sync()

    def write(self, changes):
        if not changes:
            return
        text = ""
        for key in sorted(changes):
            text += f"{key}!;" if changes[key] is None else f"{key}={changes[key]};"
        parts = cut(text)
        if self.row_count() and self.row_count() + len(parts) > self.rows:
            self.check(True)
        for left, part in reversed(list(enumerate(reversed(parts)))):
            serial = self.row_count() + 1
            self.put(self.pieces() + serial, f"row {self.generation()} {serial} {left} {part}")
        for key, value in changes.items():
            if value is None:
                self.now.pop(key, None)
            else:
                self.now[key] = value

    def sync(self):
        if self.loose:
            self.durable = [self.cells(0), self.cells(1)]
            self.loose = []
            self.syncs += 1

    def fall(self, words):
        words = list(words) + ["lost"] * len(self.loose)
        for (area, at, text), word in zip(self.loose, words):
            if word != "lost":
                self.durable[area][at] = text if word == "kept" else ""
        self.loose, self.now, self.fallen = [], {}, True

    def wake(self):
        self.area, _, self.now = read(self.areas())
        self.fallen = False
        self.check(True)

    def areas(self):
        return [[cells.get(at) for at in range(max(cells, default=-1) + 1)] for cells in self.durable]

    def shown(self):
        return [dict(sorted(self.now.items())), self.areas(), self.loose, self.syncs, self.fallen]


def cut(text):
    return re.findall(".{1,60}", text)


def read(areas):
    """The area, the generation and the table that are read."""
    found = []
    for area, cells in enumerate(areas):
        cells = dict(enumerate(cells))
        head = re.fullmatch(r"head (\d+) (\d+)", cells.get(0) or "")
        if not head:
            continue
        generation, count = int(head[1]), int(head[2])
        pieces = [re.fullmatch(f"piece {generation} {at} (.+)", cells.get(at) or "") for at in range(1, count + 1)]
        if not all(pieces):
            continue
        text, rows, serial = "".join(piece[1] for piece in pieces), "", 1
        while True:
            row = re.fullmatch(rf"row {generation} {serial} (\d+) (.+)", cells.get(count + serial) or "")
            if not row:
                break
            rows += row[2]
            serial += 1
            if row[1] == "0":
                text, rows = text + rows, ""
        table = {}
        for change in re.findall("[^;]*;", text):
            gone = re.fullmatch("(.*)!;", change)
            if gone:
                table.pop(gone[1], None)
            else:
                key, value = re.fullmatch("([^=]*)=(.*);", change).groups()
                table[key] = value
        found.append((generation, area, table))
    if not found:
        return None
    generation, area, table = max(found, key=lambda row: row[0])
    return area, generation, dict(sorted(table.items()))
