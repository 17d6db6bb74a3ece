"""Disks: tables that outlast a fall, as far as their writes were synced."""

from surelet.bounds import MOST_ROWS
from surelet.cells import apply_changes, changes_text, generation_of, read_area, stretches
from surelet.errors import Fallen, InvalidCut, InvalidNumber, NotFallen
from surelet.words import is_number

CUT_WORDS = ("kept", "lost", "torn")


class Disk:
    """A table in two areas of cells, which are checked in turn."""

    STRETCH = 60

    def __init__(self, table, *, rows=16):
        if not is_number(rows, 1, MOST_ROWS):
            raise InvalidNumber(rows)
        self._most = rows
        self._table = dict(table)
        self._areas = [[], []]
        self._unsynced = []
        self._syncs = 0
        self._fallen = False
        self._halts = False
        self._halted = False
        # The first check takes the other area, and the generation above this one.
        self._area = 1
        self._generation = 0
        self._pieces = 0
        self._rows = 0
        self.check()
        self._syncs = 0

    def write(self, changes):
        """Writes a record, a dict from keys to strings, or None for keys that go."""
        self.check_awake()
        if len(changes) == 0:
            return
        rows = stretches(changes_text(changes), self.STRETCH)
        if self._rows > 0 and self._rows + len(rows) > self._most:
            self.check()
        for at, text in enumerate(rows):
            self._rows += 1
            follow = len(rows) - at - 1
            self.put(self._pieces + self._rows, f"row {self._generation} {self._rows} {follow} {text}")
        apply_changes(self._table, changes)

    def check(self, *, synced=True):
        """Writes the whole table into the other area."""
        self.check_awake()
        # Otherwise a fall might spoil both areas: the head here, and what is written over there.
        if any([area == self._area and at == 0 for area, at, _ in self._unsynced]):
            self.sync()
        pieces = stretches(changes_text(self._table), self.STRETCH)
        self._area = 1 - self._area
        # While the disk is awake, its generation is the greatest one of all cells.
        self._generation += 1
        self._pieces = len(pieces)
        self._rows = 0
        for at, text in enumerate(pieces):
            self.put(at + 1, f"piece {self._generation} {at + 1} {text}")
        self.put(0, f"head {self._generation} {self._pieces}")
        if synced:
            self.sync()

    def sync(self):
        """Makes all writes up to here durable."""
        self.check_awake()
        if self._halts:
            self._halted = True
        elif len(self._unsynced) > 0:
            for area, at, text in self._unsynced:
                self.keep(area, at, text)
            self._unsynced = []
            self._syncs += 1

    def halt_at_sync(self):
        """Lets the next sync not happen, nor anything behind it but a fall."""
        self._halts = True

    def put(self, at, text):
        """Writes a cell of the present area."""
        if not self._halted:
            self._unsynced.append((self._area, at, text))

    def keep(self, area, at, text):
        """Makes a write durable."""
        cells = self._areas[area]
        while len(cells) <= at:
            cells.append(None)
        cells[at] = text

    def check_awake(self):
        """Raises Fallen while the disk is fallen."""
        if self._fallen:
            raise Fallen("disk")

    def fall(self, cut=()):
        """Loses the memory, and of the unsynced writes those that the cut tells."""
        self.check_awake()
        check_cut(cut)
        for (area, at, text), word in zip(self._unsynced, cut):
            if word != "lost":
                self.keep(area, at, text if word == "kept" else "")
        self._unsynced = []
        self._table = {}
        self._fallen = True

    def wake(self):
        """Reads the table from the areas, and checks."""
        if not self._fallen:
            raise NotFallen("disk")
        self._area, _, self._table = read_areas(self._areas)
        self._generation = max([generation_of(cell) for cells in self._areas for cell in cells])
        self._fallen = False
        self.check()

    def table(self):
        """The table as it is in memory, keys ascending."""
        return {key: self._table[key] for key in sorted(self._table)}

    def areas(self):
        """The durable cells of both areas."""
        return [list(cells) for cells in self._areas]

    def unsynced(self):
        """The unsynced writes as triples (area, index, text), in order."""
        return list(self._unsynced)

    @property
    def syncs(self):
        """How many syncs counted."""
        return self._syncs

    @property
    def fallen(self):
        """Whether the disk is fallen."""
        return self._fallen

    def copy(self):
        """A disk that shares nothing with this one."""
        other = Disk({}, rows=self._most)
        other._table = dict(self._table)
        other._areas = self.areas()
        other._unsynced = self.unsynced()
        other._syncs = self._syncs
        other._fallen = self._fallen
        other._area = self._area
        other._generation = self._generation
        other._pieces = self._pieces
        other._rows = self._rows
        return other


def check_cut(cut):
    """Raises InvalidCut unless the cut is a list of words."""
    if not isinstance(cut, (list, tuple)):
        raise InvalidCut(-1)
    for at, word in enumerate(cut):
        if word not in CUT_WORDS:
            raise InvalidCut(at)


def read_areas(areas):
    """The area, the generation and the table that are read from areas, None if no area is whole."""
    best = None
    for area, cells in enumerate(areas):
        generation, table = read_area(cells)
        if table is not None and (best is None or generation > best[1]):
            best = (area, generation, {key: table[key] for key in sorted(table)})
    return best
