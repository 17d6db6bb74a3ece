"""Disks: their cells, writing, checks, syncs, falls and wakings."""

import copy
import inspect
import itertools
import random
import unittest

from paper import Paper, read
from support import NOT_NUMBERS, Case

from surelet.disks import Disk, read_areas
from surelet.errors import Fallen, InvalidCut, InvalidNumber, NotFallen

WORDS = ("kept", "lost", "torn")
EXAMPLE = {"r lot a 0": "- - 1 0 loan 1 b 1 20 - -", "r next": "2", "r past": "0"}
PIECE = "piece 1 1 r lot a 0=- - 1 0 loan 1 b 1 20 - -;r next=2;r past=0;"


def shown(disk):
    """All that a disk tells."""
    return [disk.table(), disk.areas(), disk.unsynced(), disk.syncs, disk.fallen]


def value_of(length, key="k"):
    """A value with which the text of a change of the key has this length."""
    return "v" * (length - len(key) - 2)


def disk_generation(disk):
    """The greatest generation in all durable cells."""
    return max([int(cell.split(" ")[1]) for cells in disk.areas() for cell in cells if cell])


class DiskCase(Case):
    def refused(self, disk, error, values, call, *args, **named):
        """The call raises this error, and nothing of the disk is changed."""
        ahead = shown(disk)
        self.check_error(error, values, call, *args, **named)
        self.check_same(shown(disk), ahead)


class New(DiskCase):
    def test_the_example(self):
        disk = Disk(EXAMPLE)
        self.check_same(disk.areas(), [["head 1 1", PIECE], []])
        self.check_same([disk.table(), disk.unsynced(), disk.syncs, disk.fallen], [EXAMPLE, [], 0, False])
        disk.write({"r past": "1"})
        self.check_same(disk.unsynced(), [(0, 2, "row 1 1 0 r past=1;")])
        self.check_same(disk.areas(), [["head 1 1", PIECE], []])
        disk.sync()
        self.check_same(disk.areas(), [["head 1 1", PIECE, "row 1 1 0 r past=1;"], []])
        self.check_same([disk.unsynced(), disk.syncs, disk.table()], [[], 1, {**EXAMPLE, "r past": "1"}])

    def test_an_empty_table(self):
        disk = Disk({})
        self.check_same(disk.areas(), [["head 1 0"], []])
        disk.write({"a": "1"})
        self.check_same(disk.unsynced(), [(0, 1, "row 1 1 0 a=1;")])

    def test_the_keys_ascend(self):
        disk = Disk({"b": "2", "a c": "", "a": "-"})
        self.check_same(disk.table(), {"a": "-", "a c": "", "b": "2"})
        self.check_same(disk.areas(), [["head 1 1", "piece 1 1 a=-;a c=;b=2;"], []])

    def test_the_greatest_number_of_rows(self):
        for rows in (1, 2, 16, 63, 64):
            self.check_same(shown(Disk(table={}, rows=rows)), shown(Disk({})))
        for rows in NOT_NUMBERS + [0, -1, 65]:
            self.check_error(InvalidNumber, [rows], Disk, {}, rows=rows)
        with self.assertRaises(TypeError):
            Disk({}, 16)

    def test_the_stretch(self):
        self.check_same(Disk.STRETCH, 60)
        for word in ("syncs", "fallen"):
            self.assertIsInstance(inspect.getattr_static(Disk, word), property)

    def test_pieces(self):
        for length, sizes in ((59, [59]), (60, [60]), (61, [60, 1]), (120, [60, 60]), (121, [60, 60, 1])):
            table = {"k": value_of(length)}
            cells = Disk(table).areas()[0]
            self.check_same(cells[0], f"head 1 {len(sizes)}")
            self.check_same([len(cell.split(" ", 3)[3]) for cell in cells[1:]], sizes)
            self.check_same([cell.split(" ", 3)[:3] for cell in cells[1:]],
                            [["piece", "1", str(at + 1)] for at in range(len(sizes))])
            self.check_same(read_areas(Disk(table).areas()), (0, 1, table))

    def test_what_is_passed_and_told_is_copied(self):
        table = {"a": "1"}
        disk = Disk(table)
        table["b"] = "2"
        disk.write({"c": "3"})
        ahead = copy.deepcopy(shown(disk))
        disk.table().clear()
        disk.unsynced().clear()
        disk.areas()[0].clear()
        disk.areas().clear()
        self.check_same(shown(disk), ahead)
        self.check_same([table, disk.table()], [{"a": "1", "b": "2"}, {"a": "1", "c": "3"}])


class Writing(DiskCase):
    def test_keys_that_go_and_keys_that_stay(self):
        disk = Disk({"a": "1", "b": "2"})
        changes = {"b": None, "a": "1", "z": None, "c": "-"}
        disk.write(changes=changes)
        self.check_same(disk.unsynced(), [(0, 2, "row 1 1 0 a=1;b!;c=-;z!;")])
        self.check_same([disk.table(), list(changes)], [{"a": "1", "c": "-"}, ["b", "a", "z", "c"]])

    def test_nothing(self):
        disk = Disk({"a": "1"}, rows=1)
        disk.write({"a": "2"})
        ahead = shown(disk)
        disk.write({})
        self.check_same(shown(disk), ahead)

    def test_rows_of_a_record(self):
        for length, sizes in ((59, [59]), (60, [60]), (61, [60, 1]), (120, [60, 60]), (121, [60, 60, 1])):
            disk = Disk({})
            disk.write({"a": "1"})
            disk.write({"k": value_of(length)})
            rows = [text.split(" ", 4) for _, _, text in disk.unsynced()]
            self.check_same([row[:4] for row in rows[1:]], [
                ["row", "1", str(at + 2), str(len(sizes) - at - 1)] for at in range(len(sizes))])
            self.check_same([len(row[4]) for row in rows[1:]], sizes)
            self.check_same([at for _, at, _ in disk.unsynced()], list(range(1, len(sizes) + 2)))

    def test_spaces_at_the_edge_of_a_stretch(self):
        for spaces in range(1, 70):
            table = {"k": "x" + " " * spaces + "y", "l": " "}
            disk = Disk(table)
            disk.write({"k": " " * spaces, "m": "  "})
            disk.sync()
            self.check_same(read_areas(disk.areas())[2], {"k": " " * spaces, "l": " ", "m": "  "})

    def test_a_full_area_is_checked_first(self):
        for rows in (1, 2, 16, 63, 64):
            disk = Disk({"a": "0"}, rows=rows)
            for at in range(rows):
                disk.write({"a": str(at)})
            self.check_same([len(disk.unsynced()), disk.syncs], [rows, 0])
            disk.write({"a": "x"})
            self.check_same(disk.unsynced(), [(1, 2, "row 2 1 0 a=x;")])
            self.check_same([disk.syncs, disk.areas()[1]], [1, ["head 2 1", f"piece 2 1 a={rows - 1};"]])
            self.check_same(len(disk.areas()[0]), rows + 2)

    def test_the_default_of_sixteen_rows(self):
        disk = Disk({})
        for at in range(16):
            disk.write({"a": str(at)})
        self.check_same(disk.syncs, 0)
        disk.write({"a": "x"})
        self.check_same(disk.syncs, 1)

    def test_a_record_of_several_rows_and_a_full_area(self):
        for ahead, length, checked in ((1, 61, False), (2, 60, False), (2, 61, True), (1, 121, True), (3, 1, True)):
            disk = Disk({}, rows=3)
            for _ in range(ahead):
                disk.write({"a": "1"})
            disk.write({"k": value_of(max(length, 3))})
            self.check_same(disk.syncs, 1 if checked else 0)
            self.check_same(disk.unsynced()[-1][0], 1 if checked else 0)

    def test_a_record_with_too_many_rows_for_itself(self):
        disk = Disk({}, rows=2)
        disk.write({"k": value_of(200)})
        self.check_same([(area, at) for area, at, _ in disk.unsynced()], [(0, 1), (0, 2), (0, 3), (0, 4)])
        self.check_same(disk.syncs, 0)
        disk.write({"a": "1"})
        self.check_same(disk.unsynced(), [(1, 5, "row 2 1 0 a=1;")])
        disk.write({"k": value_of(200)})
        self.check_same([(area, at) for area, at, _ in disk.unsynced()], [(0, 5), (0, 6), (0, 7), (0, 8)])
        self.check_same(disk.syncs, 2)

    def test_the_check_writes_the_table_ahead_of_the_changes(self):
        disk = Disk({"a": "1"}, rows=1)
        disk.write({"a": "2", "b": "3"})
        disk.write({"a": None})
        self.check_same(disk.areas()[1], ["head 2 1", "piece 2 1 a=2;b=3;"])


class Checks(DiskCase):
    def test_both_areas_in_turn(self):
        disk = Disk({"k": value_of(70)})
        disk.write({"a": "1"})
        disk.sync()
        disk.check()
        self.check_same([cell.split(" ")[:3] for cell in disk.areas()[1]],
                        [["head", "2", "2"], ["piece", "2", "1"], ["piece", "2", "2"]])
        disk.write({"k": None})
        disk.check(synced=True)
        self.check_same(disk.areas()[0], ["head 3 1", "piece 3 1 a=1;"] + disk.areas()[0][2:])
        self.check_same([cell.split(" ")[:3] for cell in disk.areas()[0][2:]], [["piece", "1", "2"], ["row", "1", "1"]])
        self.check_same(disk.areas()[1][3], "row 2 1 0 k!;")
        self.check_same(disk.syncs, 3)

    def test_pieces_in_order_then_the_head(self):
        disk = Disk({"k": value_of(70)})
        disk.check(synced=False)
        self.check_same([(area, at, text.split(" ")[0]) for area, at, text in disk.unsynced()],
                        [(1, 1, "piece"), (1, 2, "piece"), (1, 0, "head")])
        self.check_same([disk.areas()[1], disk.syncs], [[], 0])
        disk.write({"a": "1"})
        self.check_same(disk.unsynced()[-1], (1, 3, "row 2 1 0 a=1;"))

    def test_a_check_behind_one_that_is_unsynced(self):
        disk = Disk({"a": "1"})
        disk.check(synced=False)
        disk.write({"a": "2"})
        disk.check(synced=False)
        self.check_same(disk.syncs, 1)
        self.check_same(disk.areas()[1], ["head 2 1", "piece 2 1 a=1;", "row 2 1 0 a=2;"])
        self.check_same(disk.unsynced(), [(0, 1, "piece 3 1 a=2;"), (0, 0, "head 3 1")])
        disk.check()
        self.check_same([disk.syncs, disk.unsynced()], [3, []])
        self.check_same(disk.areas()[1][:2], ["head 4 1", "piece 4 1 a=2;"])

    def test_a_check_behind_unsynced_rows(self):
        disk = Disk({"a": "1"})
        disk.write({"a": "2"})
        disk.check(synced=False)
        self.check_same([disk.syncs, len(disk.unsynced())], [0, 3])
        disk.sync()
        self.check_same([disk.syncs, disk.areas()[0][2]], [1, "row 1 1 0 a=2;"])
        with self.assertRaises(TypeError):
            disk.check(True)

    def test_a_sync_that_counts(self):
        disk = Disk({"a": "1"})
        disk.sync()
        disk.sync()
        self.check_same(disk.syncs, 0)
        disk.write({"a": "2"})
        disk.write({"a": "3"})
        disk.sync()
        disk.sync()
        self.check_same(disk.syncs, 1)


class Falling(DiskCase):
    def test_each_word_and_shorter_and_longer_cuts(self):
        for cut, rows in (
            ((), []), (["kept"], ["row 1 1 0 a=1;"]), (("lost", "kept"), [None, "row 1 2 0 a=2;"]),
            (("torn",), [""]), (["lost", "torn"], [None, ""]), (["kept", "lost", "kept", "torn"], ["row 1 1 0 a=1;"]),
            (("kept", "kept", "kept"), ["row 1 1 0 a=1;", "row 1 2 0 a=2;"]), (["lost"] * 9, []),
        ):
            disk = Disk({})
            disk.write({"a": "1"})
            disk.write({"a": "2"})
            disk.fall(cut)
            self.check_same(shown(disk), [{}, [["head 1 0"] + rows, []], [], 0, True])

    def test_a_torn_cell_that_held_something(self):
        disk = Disk({"a": "1"})
        for _ in range(2):
            disk.check()
        disk.check(synced=False)
        disk.fall(cut=("lost", "torn"))
        self.check_same(disk.areas(), [["head 3 1", "piece 3 1 a=1;"], ["", "piece 2 1 a=1;"]])
        disk.wake()
        self.check_same(disk.areas(), [["head 3 1", "piece 3 1 a=1;"], ["head 4 1", "piece 4 1 a=1;"]])

    def test_the_example(self):
        disk = Disk({"a": "0"})
        for at in range(1, 5):
            disk.write({"a": str(at)})
        disk.sync()
        disk.write({"a": "5"})
        disk.write({"b": "6"})
        disk.fall(["lost", "kept"])
        self.check_same(disk.areas()[0][5:], ["row 1 4 0 a=4;", None, "row 1 6 0 b=6;"])
        disk.wake()
        self.check_same(disk.table(), {"a": "4"})
        self.check_same(disk.areas()[1], ["head 2 1", "piece 2 1 a=4;"])
        self.check_same([disk.unsynced(), disk.syncs, disk.fallen], [[], 2, False])
        disk.write({"c": "7"})
        disk.fall(["kept"])
        self.check_same(read_areas(disk.areas()), (1, 2, {"a": "4", "c": "7"}))

    def test_wrong_cuts(self):
        disk = Disk({})
        disk.write({"a": "1"})
        for cut in NOT_NUMBERS + [5, "kept"]:
            if not isinstance(cut, (list, tuple)):
                self.refused(disk, InvalidCut, [-1], disk.fall, cut)
        for word in NOT_NUMBERS + ["Kept", "keptlost", 0]:
            for ahead in ([], ["kept"], ["torn", "lost", "lost"]):
                self.refused(disk, InvalidCut, [len(ahead)], disk.fall, ahead + [word])
                self.refused(disk, InvalidCut, [len(ahead)], disk.fall, tuple(ahead) + (word, None))

    def test_while_fallen(self):
        disk = Disk({"a": "1"})
        self.refused(disk, NotFallen, ["disk"], disk.wake)
        disk.write({"a": "2"})
        disk.fall()
        self.check_same(shown(disk), [{}, [["head 1 1", "piece 1 1 a=1;"], []], [], 0, True])
        for call, args in ((disk.write, [{"a": "3"}]), (disk.write, [{}]), (disk.check, []), (disk.sync, []),
                           (disk.fall, []), (disk.fall, [None]), (disk.fall, [["no"]])):
            self.refused(disk, Fallen, ["disk"], call, *args)
        self.refused(disk, Fallen, ["disk"], disk.check, synced=False)
        disk.wake()
        self.check_same(disk.table(), {"a": "1"})
        self.refused(disk, NotFallen, ["disk"], disk.wake)

    def test_all_cuts_of_up_to_three_unsynced_writes(self):
        """The records are read whose rows are kept, as far as all rows ahead are."""
        for sizes in ((), (1,), (2,), (3,), (1, 1), (2, 1), (1, 2), (1, 1, 1)):
            for cut in [cut for length in range(5) for cut in itertools.product(WORDS, repeat=length)]:
                disk = Disk({"a": "0"})
                disk.write({"b": "1"})
                disk.sync()
                tables = [disk.table()]
                for at, size in enumerate(sizes):
                    disk.write({f"k{at}": value_of(60 * size, "k0")})
                    tables.append(disk.table())
                kept = 0
                while kept < min(len(cut), sum(sizes)) and cut[kept] == "kept":
                    kept += 1
                whole = len([at for at in range(len(sizes)) if sum(sizes[:at + 1]) <= kept])
                disk.fall(cut)
                self.check_same(read_areas(disk.areas()), (0, 1, tables[whole]))
                disk.wake()
                self.check_same([disk.table(), read_areas(disk.areas())], [tables[whole], (1, disk_generation(disk),
                                                                                        tables[whole])])

    def test_all_cuts_of_an_unsynced_check(self):
        for cut in [cut for length in range(4) for cut in itertools.product(WORDS, repeat=length)]:
            disk = Disk({"a": "0"})
            disk.write({"b": "1"})
            disk.sync()
            disk.check(synced=False)
            disk.write({"c": "2"})
            disk.fall(cut)
            whole = cut[:2] == ("kept", "kept")
            table = {"a": "0", "b": "1", "c": "2"} if cut[:3] == ("kept",) * 3 else {"a": "0", "b": "1"}
            self.check_same(read_areas(disk.areas()), (1, 2, table) if whole else (0, 1, table))
            disk.wake()
            # The next generation is above that of a piece whose head was lost, too.
            seen = 2 if {"kept"} & set(cut) else 1
            self.check_same(read_areas(disk.areas()), (0 if whole else 1, seen + 1, table))

    def test_what_was_lost_never_comes_again(self):
        for cut in itertools.product(WORDS, repeat=3):
            disk = Disk({"a": "0"}, rows=4)
            for at in range(1, 4):
                disk.write({f"k{at}": str(at)})
            disk.fall(cut)
            disk.wake()
            told = disk.table()
            for step in range(12):
                disk.fall([WORDS[step % 3]])
                disk.wake()
                self.check_same(disk.table(), told)
                disk.write({"s": str(step)})
                disk.sync()
                told["s"] = str(step)
                told = dict(sorted(told.items()))

    def test_a_copy_shares_nothing(self):
        disk = Disk({"a": "1"}, rows=2)
        disk.write({"a": "2"})
        ahead = shown(disk)
        other = disk.copy()
        self.check_same(shown(other), ahead)
        for at in range(5):
            other.write({"a": str(at), "b": "0"})
        other.fall(["torn"])
        fallen = other.copy()
        self.check_same(shown(fallen), shown(other))
        fallen.wake()
        self.check_same([other.fallen, fallen.fallen], [True, False])
        self.check_same(shown(disk), ahead)
        again = disk.copy()
        for one in (disk, again):
            for at in range(5):
                one.write({"a": str(at)})
            one.check(synced=False)
        self.check_same(shown(disk), shown(again))


class Reading(DiskCase):
    def test_areas_that_are_not_whole(self):
        for areas in (
            [[], []], [[None], []], [[""], []], [["piece 1 1 a=1;"], []], [["head 1 1"], []], [["head 1 1", None], []],
            [["head 1 1", ""], []], [["head 2 1", "piece 1 1 a=1;"], []], [["head 1 2", "piece 1 1 a=1;"], [None]],
            [["head 1 1", "piece 1 2 a=1;"], []], [["head 1 1", "row 1 1 0 a=1;"], []],
            [["head 1 2", "piece 1 2 a=1;", "piece 1 1 b=1;"], []], [["row 1 1 0 a=1;"], []],
        ):
            self.assertIsNone(read_areas(areas))

    def test_the_greatest_generation(self):
        one, other = ["head 9 1", "piece 9 1 a=1;"], ["head 10 1", "piece 10 1 a=2;", "row 10 1 0 b=3;"]
        self.check_same(read_areas([one, other]), (1, 10, {"a": "2", "b": "3"}))
        self.check_same(read_areas(areas=(tuple(other), tuple(one))), (0, 10, {"a": "2", "b": "3"}))
        self.check_same(read_areas([one, [""] + other[1:]]), (0, 9, {"a": "1"}))
        self.check_same(read_areas([one, ["head 10 0"]]), (1, 10, {}))
        self.check_same(read_areas([one, ["head 10 1", "", "row 10 1 0 b=3;"]]), (0, 9, {"a": "1"}))

    def test_rows_that_count(self):
        start = ["head 5 1", "piece 5 1 a=1;b=2;"]
        for rows, table in (
            (["row 5 1 0 a!;"], {"b": "2"}),
            (["row 5 1 0 a=3;", "row 5 2 0 c=;"], {"a": "3", "b": "2", "c": ""}),
            (["row 5 2 0 a=3;"], {"a": "1", "b": "2"}),
            ([None, "row 5 2 0 a=3;"], {"a": "1", "b": "2"}),
            (["", "row 5 2 0 a=3;"], {"a": "1", "b": "2"}),
            (["row 4 1 0 a=3;", "row 5 2 0 a=3;"], {"a": "1", "b": "2"}),
            (["row 5 1 0 a=3;", "row 3 2 0 a=4;"], {"a": "3", "b": "2"}),
            (["piece 5 2 a=3;"], {"a": "1", "b": "2"}),
            (["row 5 1 1 a=3", "row 5 2 0 4;"], {"a": "34", "b": "2"}),
            (["row 5 1 1 a=3", None, "row 5 3 0 b!;"], {"a": "1", "b": "2"}),
            (["row 5 1 0 b!;", "row 5 2 2 a=3", "row 5 3 1 4;c=", ""], {"a": "1"}),
            (["row 5 1 2 a=3", "row 5 2 1 4", "row 5 3 0 ;c=1;", "row 5 4 0 d!;"], {"a": "34", "b": "2", "c": "1"}),
            (["row 5 1 0 z!;", "row 5 2 0 c= 1 ,-;"], {"a": "1", "b": "2", "c": " 1 ,-"}),
            (["row 55 1 0 a=3;"], {"a": "1", "b": "2"}),
            (["row 5 11 0 a=3;"], {"a": "1", "b": "2"}),
        ):
            self.check_same(read_areas([[], start + rows]), (1, 5, table))

    def test_keys_ascend(self):
        self.check_same(read_areas([["head 1 1", "piece 1 1 c=1;a=2;", "row 1 1 0 b=3;"], []]),
                        (0, 1, {"a": "2", "b": "3", "c": "1"}))


class Random(DiskCase):
    def changes(self, chance, disk):
        keys = [chance.choice("abcdefgh") * chance.randint(1, 3) for _ in range(chance.choice([0, 1, 1, 2, 4]))]
        lengths = [0, 1, 5, 55, 56, 57, 58, 59, 60, 61, 130]
        return {key: chance.choice([None, "v " * (chance.choice(lengths) // 2), "-,"]) for key in keys}

    def test_runs_beside_a_slow_disk(self):
        for seed in range(80):
            chance = random.Random(seed)
            rows = chance.choice([1, 2, 3, 5, 16])
            table = {key: "1" * chance.randint(0, 70) for key in chance.sample("abcdefgh", chance.randint(0, 4))}
            disk, paper = Disk(table, rows=rows), Paper(table, rows)
            for _ in range(60):
                word = chance.choice(["write"] * 8 + ["sync", "check", "loose", "fall"])
                if word == "write":
                    changes = self.changes(chance, disk)
                    disk.write(changes)
                    paper.write(changes)
                elif word == "sync":
                    disk.sync()
                    paper.sync()
                elif word == "check":
                    disk.check()
                    paper.check(True)
                elif word == "loose":
                    disk.check(synced=False)
                    paper.check(False)
                else:
                    cut = [chance.choice(WORDS) for _ in range(chance.randint(0, len(paper.loose) + 2))]
                    disk.fall(cut)
                    paper.fall(cut)
                    self.check_same(shown(disk), paper.shown())
                    self.check_same(read_areas(disk.areas()), read(disk.areas()))
                    disk.wake()
                    paper.wake()
                self.check_same(shown(disk), paper.shown())
                if chance.random() < 0.1:
                    disk = disk.copy()


if __name__ == "__main__":
    unittest.main()
