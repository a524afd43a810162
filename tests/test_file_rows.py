"""Long rows of deeds on files of both makes, beside a model that keeps to the words of the document."""

import copy
import re
import unittest
from unittest import mock

from helper import LONG, Draws, all_told, disk_of, formatted, outcome, path_behind, refused
from ownroom import errors
from ownroom.diskfiles import mount
from ownroom.journal import commit
from ownroom.plainfiles import PlainFiles
from ownroom.trees import tree

FEW_NAMES = ("a", "b", "c", "dd", "eeeeee")
MANY_NAMES = tuple(first + second for first in "abcdefghijklmnopqrst" for second in "vwxyz")
BAD_PATHS = ("", "a", "/a/", "//", "/A", "/sevenab", "/a/b/ ")
SIZES = (0, 1, 15, 16, 17, 32, 63, 64, 65, 80, 81, 200, 289, 319, 320)
WRONG = (-1, 321, 322, LONG, -LONG)


class Model:
    """Dirs are lists of slots, pairs or None; files are lists of cells."""

    def __init__(self, blocks):
        self.blocks = blocks
        self.dirs = {0: []}
        self.cells = {}
        self.holds = {}

    def stands(self):
        """What is to be on a disk."""
        return copy.deepcopy((self.dirs, self.cells))

    def mounted(self):
        """What stands behind a mount: nobody holds anything, and what has no name is gone."""
        other = copy.deepcopy(self)
        other.holds = {}
        other.cells = {node: cells for node, cells in other.cells.items() if self.links(node) > 0}
        return other

    def links(self, node):
        return sum(slot is not None and slot[1] == node for slots in self.dirs.values() for slot in slots)

    def free(self):
        sizes = [8 * len(slots) for slots in self.dirs.values()] + [len(cells) for cells in self.cells.values()]
        used = sum(-(-size // 16) + (size > 64) for size in sizes)
        return 24 - len(sizes), self.blocks - used

    def tree(self, node=0, path=""):
        rows = []
        for name, inner in [slot for slot in self.dirs[node] if slot]:
            if inner in self.dirs:
                rows += [(f"{path}/{name}", "dir", 1, [])] + self.tree(inner, f"{path}/{name}")
            else:
                rows.append((f"{path}/{name}", "file", self.links(inner), list(self.cells[inner])))
        return sorted(rows)

    def used_up(self):
        """What there is no more of."""
        nodes, blocks = self.free()
        slots = [len([slot for slot in slots if slot]) for slots in self.dirs.values()]
        cells = [len(cells) for cells in self.cells.values()]
        return {what for what, is_so in (("nodes", nodes == 0), ("blocks", blocks == 0), ("slots", 40 in slots),
                                         ("cells", 320 in cells)) if is_so}

    def names_of(self, path):
        if not re.fullmatch(r"/|(/[a-z]{1,6})+", path):
            raise errors.BadName
        return path.split("/")[1:] if path != "/" else []

    def found(self, names):
        node = 0
        for name in names:
            if node not in self.dirs:
                raise errors.NotDir
            there = dict(slot for slot in self.dirs[node] if slot)
            if name not in there:
                raise errors.NoName
            node = there[name]
        return node

    def within(self, node):
        """A dir and all dirs within it."""
        nodes = [node]
        for one in nodes:
            nodes.extend(slot[1] for slot in self.dirs[one] if slot and slot[1] in self.dirs)
        return nodes

    def new_name(self, names, moved=None, freed=None):
        """The dir for a new name; a slot that is freed ahead is given by its dir."""
        if not names:
            raise errors.Taken
        parent = self.found(names[:-1])
        if parent not in self.dirs:
            raise errors.NotDir
        if names[-1] in [slot[0] for slot in self.dirs[parent] if slot]:
            raise errors.Taken
        if moved in self.dirs and parent in self.within(moved):
            raise errors.Inside
        taken = sum(slot is not None for slot in self.dirs[parent])
        if taken - (freed == parent) >= 40:
            raise errors.TooMany
        return parent

    def lay(self, parent, name, node):
        """The name gets its slot, or where blocks lack for that, nothing is done."""
        slots = self.dirs[parent]
        before = list(slots)
        if None in slots:
            slots[slots.index(None)] = (name, node)
        else:
            slots.append((name, node))
        if self.free()[1] < 0:
            self.dirs[parent] = before
            raise errors.NoSpace

    def erase(self, parent, name):
        self.dirs[parent] = [None if slot and slot[0] == name else slot for slot in self.dirs[parent]]

    def clean(self, node):
        if self.links(node) == 0 and not self.holds.get(node):
            del self.cells[node]

    def find(self, path):
        return self.found(self.names_of(path))

    def new_node(self, path):
        names = self.names_of(path)
        parent = self.new_name(names)
        unused = [node for node in range(24) if node not in self.dirs and node not in self.cells]
        if not unused:
            raise errors.NoNode
        self.lay(parent, names[-1], unused[0])
        return unused[0]

    def make(self, path):
        node = self.new_node(path)
        self.cells[node] = []
        return node

    def make_dir(self, path):
        node = self.new_node(path)
        self.dirs[node] = []
        return node

    def link(self, path, new):
        names, new_names = self.names_of(path), self.names_of(new)
        node = self.found(names)
        if node in self.dirs:
            raise errors.IsDir
        self.lay(self.new_name(new_names), new_names[-1], node)

    def unlink(self, path):
        names = self.names_of(path)
        node = self.found(names)
        if node in self.dirs:
            raise errors.IsDir
        self.erase(self.found(names[:-1]), names[-1])
        self.clean(node)

    def remove_dir(self, path):
        names = self.names_of(path)
        node = self.found(names)
        if node not in self.dirs:
            raise errors.NotDir
        if node == 0:
            raise errors.NotAllowed
        if any(self.dirs[node]):
            raise errors.NotEmpty
        self.erase(self.found(names[:-1]), names[-1])
        del self.dirs[node]

    def move(self, path, new):
        names, new_names = self.names_of(path), self.names_of(new)
        if not names:
            raise errors.NotAllowed
        node, old = self.found(names), self.found(names[:-1])
        parent = self.new_name(new_names, node, old)
        before = list(self.dirs[old])
        self.erase(old, names[-1])
        try:
            self.lay(parent, new_names[-1], node)
        except errors.NoSpace:
            self.dirs[old] = before
            raise

    def names(self, path):
        node = self.find(path)
        if node not in self.dirs:
            raise errors.NotDir
        return sorted(slot[0] for slot in self.dirs[node] if slot)

    def stat(self, node):
        if node in self.dirs:
            return "dir", 1, len(self.dirs[node])
        if node in self.cells:
            return "file", self.links(node), len(self.cells[node])
        raise errors.NoNode

    def file(self, node):
        if self.stat(node)[0] == "dir":
            raise errors.IsDir
        return self.cells[node]

    def sized(self, *sizes):
        if any(size < 0 or size > 320 for size in sizes):
            raise errors.TooBig

    def read_at(self, node, at, many):
        cells = self.file(node)
        self.sized(at, many)
        return cells[at:at + many]

    def put(self, node, cells):
        before = self.cells[node]
        self.cells[node] = cells
        if self.free()[1] < 0:
            self.cells[node] = before
            raise errors.NoSpace

    def write_at(self, node, at, cells):
        whole = list(self.file(node))
        self.sized(at, at + len(cells))
        if cells:
            whole += [0] * (at - len(whole))
            whole[at:at + len(cells)] = cells
            self.put(node, whole)
        return len(cells)

    def cut(self, node, size):
        whole = self.file(node)
        self.sized(size)
        self.put(node, (whole + [0] * size)[:size])

    def hold(self, node):
        self.file(node)
        self.holds[node] = self.holds.get(node, 0) + 1

    def loose(self, node):
        self.stat(node)
        if not self.holds.get(node):
            raise errors.NotHeld
        self.holds[node] -= 1
        self.clean(node)


class Row:
    """Draws deeds for a model, with names of its own."""

    deeds = ("make make make make_dir make_dir link link unlink unlink remove_dir move move move names find stat"
             " read_at write_at write_at write_at write_at cut cut cut hold hold loose loose").split()

    def __init__(self, seed, names):
        self.draws = Draws(seed)
        self.names = names

    def paths(self, model, path="/"):
        paths = [path]
        for one in paths:
            node = model.find(one)
            if node in model.dirs:
                paths.extend(path_behind(one, name) for name in model.names(one))
        return paths

    def path(self, model):
        at = self.draws.below(20)
        if at == 0:
            return self.draws.one_of(BAD_PATHS)
        there = self.draws.one_of(self.paths(model))
        if at < 9:
            return there
        if at < 11:
            there = path_behind(there, self.draws.one_of(self.names))
        return path_behind(there, self.draws.one_of(self.names))

    def node(self, model):
        if self.draws.below(5) == 0 or not model.cells:
            return self.draws.one_of((-1, 0, 1, 7, 23, 24, LONG, -LONG))
        return self.draws.one_of(sorted(model.cells))

    def size(self):
        return self.draws.one_of(WRONG if self.draws.below(12) == 0 else SIZES)

    def call(self, model):
        deed = self.draws.one_of(self.deeds)
        if deed in ("link", "move"):
            return deed, self.path(model), self.path(model)
        if deed in ("stat", "hold", "loose"):
            return deed, self.node(model)
        if deed == "read_at":
            return deed, self.node(model), self.size(), self.size()
        if deed == "cut":
            return deed, self.node(model), self.size()
        if deed == "write_at":
            cells = [self.draws.below(256) for k in range(self.draws.one_of((0, 1, 2, 16, 31, 32)))]
            return deed, self.node(model), self.size(), cells
        return deed, self.path(model)


class CrowdedRow(Row):
    """Most names in one dir, so that all its slots get taken."""

    deeds = "make link link link link link move move unlink cut write_at make_dir remove_dir".split()

    def call(self, model):
        call = Row.call(self, model)
        if call[0] not in ("link", "move", "make", "make_dir") or self.draws.below(5) == 0:
            return call
        there = (self.draws.one_of(self.paths(model)),) if len(call) == 3 else ()
        return call[:1] + there + ("/" + self.draws.one_of(self.names),)


class GrowingRow(Row):
    """More nodes come than go, so that all get used."""

    deeds = "make make make_dir make_dir link move unlink remove_dir hold loose write_at cut".split()


ROWS = [(Row, FEW_NAMES, blocks) for blocks in (1, 2, 3, 8, 20, 40, 192)] \
    + [(CrowdedRow, MANY_NAMES, blocks) for blocks in (10, 22, 30, 192)] \
    + [(GrowingRow, MANY_NAMES, blocks) for blocks in (30, 192)]


class TestRows(unittest.TestCase):
    def test_both_makes_and_the_model(self):
        met, used_up = set(), set()
        for seed, (row_class, names, blocks) in enumerate(ROWS * 2):
            row, model = row_class(seed, names), Model(blocks)
            disk = formatted(blocks)
            makes = (mount(disk), PlainFiles(blocks))
            for turn in range(500):
                call = row.call(model)
                told = self.one(call, model, makes)
                met.add((call[0], told[1] if told[0] == "refused" else "told"))
                want = model.free(), model.tree()
                self.assertEqual([(files.free(), tree(files)) for files in makes], [want] * 2, call)
                used_up |= model.used_up()
                if turn % 10 == 0:
                    want = all_told(model)
                    self.assertEqual([all_told(files) for files in makes], [want] * 2)
                    self.assertEqual(all_told(mount(disk_of(disk.image()))), all_told(model.mounted()))
        self.assertEqual(WANTED - met, set())
        self.assertEqual(used_up, {"nodes", "blocks", "slots", "cells"})

    def one(self, call, model, makes):
        given = copy.deepcopy(call)
        want = outcome(getattr(model, call[0]), *call[1:])
        for files in makes:
            self.assertEqual(outcome(getattr(files, call[0]), *call[1:]), want, call)
            self.assertEqual(call, given)
        return want

    def test_each_deed_is_one_commit_or_none(self):
        for seed, (row_class, names, blocks) in enumerate(ROWS, start=50):
            row, model = row_class(seed, names), Model(blocks)
            disk = formatted(blocks)
            files = mount(disk)
            commits = []

            def counted(disk, changes):
                self.assertIn(len(changes), range(1, 25))
                self.assertLessEqual(28, min(changes))
                before = disk.writes()
                commit(disk, changes)
                commits.append(disk.writes() - before)

            with mock.patch("ownroom.drafts.commit", counted):
                for turn in range(200):
                    call = row.call(model)
                    stood, done = model.stands(), disk.writes()
                    commits.clear()
                    self.one(call, model, [files])
                    self.assertEqual(len(commits), 1 if model.stands() != stood else 0, call)
                    self.assertEqual(disk.writes() - done, sum(commits), call)

    def test_falls(self):
        ends = []
        for seed, (row_class, names, blocks) in enumerate(ROWS, start=100):
            row, model = row_class(seed, names), Model(blocks)
            disk = formatted(blocks)
            files = mount(disk)
            for turn in range(200):
                call = row.call(model)
                before = copy.deepcopy(model)
                want = outcome(getattr(model, call[0]), *call[1:])
                disk.fall(row.draws.below(20))
                told = outcome(getattr(files, call[0]), *call[1:])
                disk.rise()
                if told == refused("Fallen"):
                    files = mount(disk)
                    self.assertEqual(want[0], "told")
                    told = all_told(files)
                    self.assertIn(told, (all_told(before.mounted()), all_told(model.mounted())))
                    ends.append(told == all_told(model.mounted()))
                    model = (model if ends[-1] else before).mounted()
                else:
                    self.assertEqual(told, want, call)
        self.assertLess(50, sum(ends))
        self.assertLess(50, len(ends) - sum(ends))


# Each deed with what it may tell, so that a row that meets too little is seen.
WANTED = {(deed, told) for deed, tolds in (
    ("find", "told BadName NotDir NoName"),
    ("make", "told BadName NotDir NoName Taken TooMany NoNode NoSpace"),
    ("make_dir", "told BadName NotDir NoName Taken TooMany NoNode NoSpace"),
    ("link", "told BadName NotDir NoName IsDir Taken TooMany NoSpace"),
    ("unlink", "told BadName NotDir NoName IsDir"),
    ("remove_dir", "told BadName NoName NotDir NotAllowed NotEmpty"),
    ("move", "told BadName NotAllowed NotDir NoName Taken Inside TooMany NoSpace"),
    ("names", "told BadName NotDir NoName"),
    ("stat", "told NoNode"),
    ("read_at", "told NoNode IsDir TooBig"),
    ("write_at", "told NoNode IsDir TooBig NoSpace"),
    ("cut", "told NoNode IsDir TooBig NoSpace"),
    ("hold", "told NoNode IsDir"),
    ("loose", "told NoNode NotHeld")) for told in tolds.split()}


if __name__ == "__main__":
    unittest.main()
