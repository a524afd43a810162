"""The tree of files of both makes, and the walk through all dirs that it goes by."""

import unittest

from helper import NAMES, Draws, OnADisk, Plain, all_told, disk_of, formatted, outcome, refused
from ownroom.dirs import put_slots
from ownroom.diskfiles import mount
from ownroom.nodes import Nodes
from ownroom.plainnodes import PlainNodes
from ownroom.plainwalks import walk
from ownroom.trees import tree


def fill(files):
    """Dirs d (with e, x and z) and d/e (without names); files a (also b and d/z), c (without cells) and d/x."""
    files.make_dir("/d")
    files.make_dir("/d/e")
    files.make("/d/x")
    files.make("/a")
    files.make("/c")
    files.link("/a", "/b")
    files.link("/b", "/d/z")
    files.write_at(3, 60, [7] * 10)
    files.write_at(4, 1, [1, 2, 3])
    return files


FILLED = [("/a", "file", 3, [0, 1, 2, 3]), ("/b", "file", 3, [0, 1, 2, 3]), ("/c", "file", 1, []),
          ("/d", "dir", 1, []), ("/d/e", "dir", 1, []), ("/d/x", "file", 1, [0] * 60 + [7] * 10),
          ("/d/z", "file", 3, [0, 1, 2, 3])]


class Trees:
    def filled(self):
        return fill(self.files(60))

    def test_of_no_files(self):
        for blocks in (1, 60, 192):
            self.assertEqual(tree(self.files(blocks)), [])

    def test_of_files_that_are_gone(self):
        files = self.files(60)
        for turn in range(3):
            files.make_dir("/d")
            files.make("/d/a")
            files.unlink("/d/a")
            files.remove_dir("/d")
            self.assertEqual(tree(files), [])

    def test_of_dirs_and_files(self):
        self.assertEqual(tree(self.filled()), FILLED)

    def test_rows(self):
        files = self.filled()
        told = tree(files)
        self.assertIs(type(told), list)
        for row in told:
            self.assertEqual([type(part) for part in (row, *row)], [tuple, str, str, int, list], row)

    def test_one_file_and_one_dir(self):
        files = self.files(60)
        files.make("/f")
        self.assertEqual(tree(files), [("/f", "file", 1, [])])
        files.unlink("/f")
        files.make_dir("/f")
        self.assertEqual(tree(files), [("/f", "dir", 1, [])])

    def test_names_in_the_order_of_texts(self):
        files = self.files(60)
        for path in ("/b", "/ab", "/a", "/abc", "/a/b", "/a/b/a", "/a/ab", "/ab/a"):
            files.make_dir(path)
        for path in ("/aa", "/a/a", "/a/b/b", "/ab/c", "/z", "/abc/a", "/abca"):
            files.make(path)
        paths = [row[0] for row in tree(files)]
        self.assertEqual(paths, ["/a", "/a/a", "/a/ab", "/a/b", "/a/b/a", "/a/b/b", "/aa", "/ab", "/ab/a", "/ab/c",
                                 "/abc", "/abc/a", "/abca", "/b", "/z"])
        self.assertEqual(paths, sorted(paths))

    def test_dirs_in_dirs(self):
        files = self.files(60)
        for n in range(1, 24):
            files.make_dir("/dir" * n)
        self.assertEqual(tree(files), [("/dir" * n, "dir", 1, []) for n in range(1, 24)])

    def test_dirs_of_many_names(self):
        files = self.files(192)
        files.make("/f")
        files.write_at(1, 0, [5, 6])
        dirs = ["/p", "/q", "/q/r"]
        for path in dirs:
            files.make_dir(path)
        for path in dirs:
            for name in NAMES[:39]:
                files.link("/f", f"{path}/{name}")
        want = [(f"{path}/{name}", "file", 118, [5, 6]) for path in dirs for name in NAMES[:39]]
        want += [(path, "dir", 1, []) for path in dirs] + [("/f", "file", 118, [5, 6])]
        self.assertEqual(tree(files), sorted(want))

    def test_cells_of_each_size(self):
        files = self.files(60)
        files.make("/f")
        for size in (0, 1, 15, 16, 17, 63, 64, 65, 80, 319, 320):
            files.cut(1, 0)
            cells = [1 + k % 255 for k in range(size)]
            for at in range(0, size, 32):
                files.write_at(1, at, cells[at:at + 32])
            self.assertEqual(tree(files), [("/f", "file", 1, cells)])

    def test_links_are_the_same_at_each_path(self):
        files = self.filled()
        for path, left in (("/b", ["/a", "/d/z"]), ("/a", ["/d/z"])):
            files.unlink(path)
            self.assertEqual([row for row in tree(files) if row[3] == [0, 1, 2, 3]],
                             [(other, "file", len(left), [0, 1, 2, 3]) for other in left])
        files.move("/d/z", "/a")
        self.assertEqual(tree(files)[0], ("/a", "file", 1, [0, 1, 2, 3]))

    def test_a_dir_that_is_moved(self):
        files = self.filled()
        files.move("/d/e", "/e")
        files.move("/d", "/e/d")
        self.assertEqual([row[0] for row in tree(files)], ["/a", "/b", "/c", "/e", "/e/d", "/e/d/x", "/e/d/z"])

    def test_held_files(self):
        files = self.filled()
        for node in (3, 4, 4):
            files.hold(node)
        self.assertEqual(tree(files), FILLED)
        files.unlink("/d/x")
        without = [row for row in FILLED if row[0] != "/d/x"]
        self.assertEqual(tree(files), without)
        files.write_at(3, 0, [9])
        self.assertEqual((tree(files), files.read_at(3, 0, 1)), (without, [9]))
        for node in (3, 4, 4):
            files.loose(node)
        self.assertEqual(tree(files), without)

    def test_it_changes_nothing(self):
        files = self.filled()
        before = all_told(files)
        self.assertEqual([tree(files) for turn in range(3)], [FILLED] * 3)
        self.assertEqual(all_told(files), before)

    def test_no_two_lists_are_one_and_the_same(self):
        files = self.filled()
        answers = [tree(files), tree(files), [(None, None, None, files.read_at(4, 0, 320))]]
        lists = answers + [row[3] for answer in answers for row in answer]
        self.assertEqual(len({id(one) for one in lists}), len(lists))

    def test_lists_are_the_askers_own(self):
        files = self.filled()
        before = all_told(files)
        told = tree(files)
        for k, row in enumerate(FILLED):
            told[k][3].append(99)
            told[k][3][0] = 98
            self.assertEqual([other[3] for other in told[k + 1:]], [other[3] for other in FILLED[k + 1:]])
        told.pop()
        self.assertEqual((tree(files), all_told(files)), (FILLED, before))

    def test_what_was_told_stays(self):
        files = self.filled()
        told = tree(files)
        files.write_at(4, 0, [9] * 20)
        files.cut(3, 0)
        files.move("/d", "/q")
        files.unlink("/a")
        self.assertEqual(told, FILLED)

    def test_what_was_told_is_handed_in(self):
        files = self.filled()
        told = tree(files)
        files.write_at(5, 0, told[0][3])
        files.make(told[4][0] + told[0][0])
        self.assertEqual(tree(files)[2], ("/c", "file", 1, [0, 1, 2, 3]))
        files.write_at(5, 0, [8])
        self.assertEqual((tree(files)[0], told), (FILLED[0], FILLED))


class TestTreesOnADisk(OnADisk, Trees, unittest.TestCase):
    def test_nothing_is_written(self):
        disk = formatted(60)
        files = fill(mount(disk))
        image, done = disk.image(), disk.writes()
        tree(files)
        self.assertEqual((disk.image(), disk.writes()), (image, done))

    def test_behind_a_mount(self):
        disk = formatted(60)
        files = fill(mount(disk))
        self.assertEqual(tree(mount(disk)), FILLED)
        files.hold(3)
        files.unlink("/d/x")
        self.assertEqual(tree(mount(disk_of(disk.image()))), [row for row in FILLED if row[0] != "/d/x"])

    def end(self, call, at):
        """The tree behind a fall at one of a call's writes, the rise and a mount; whether the disk fell."""
        disk = formatted(60)
        files = fill(mount(disk))
        files.hold(3)
        files.unlink("/d/x")
        disk.fall(at)
        told = outcome(getattr(files, call[0]), *call[1:])
        disk.rise()
        return tree(mount(disk)), told == refused("Fallen")

    def test_behind_a_fall_a_rise_and_a_mount(self):
        before = [row for row in FILLED if row[0] != "/d/x"]
        moved = [(row[0].replace("/d", "/q"), *row[1:]) for row in before]
        written = [(*row[:3], [0] + [8] * 32) if row[3] else row for row in before]
        unlinked = [row for row in before if row[0] != "/c"]
        made = sorted(before + [("/d/e/new", "file", 1, [])])
        for call, behind in ((("move", "/d", "/q"), moved), (("write_at", 4, 1, [8] * 32), written),
                             (("unlink", "/c"), unlinked), (("make", "/d/e/new"), made), (("loose", 3), before),
                             (("write_at", 3, 0, [1]), before)):
            at, fell, ends = 0, True, []
            while fell:
                end, fell = self.end(call, at)
                ends.append(end)
                at += 1
            self.assertLess(3, at, call)
            self.assertEqual([end for end in ends if end not in (before, behind)], [], call)
            self.assertEqual((ends[0], ends[-1]), (before, behind), call)


class TestTreesOfPlainFiles(Plain, Trees, unittest.TestCase):
    pass


class TestWalks(unittest.TestCase):
    def test_of_the_root_alone(self):
        self.assertEqual([walk(PlainNodes(9)), walk(Nodes(formatted(9)))], [[], []])

    def test_each_name_with_its_node(self):
        for nodes in (PlainNodes(40), Nodes(formatted(40))):
            for node, kind in ((3, "dir"), (5, "dir"), (7, "file"), (9, "file"), (11, "file")):
                nodes.begin_node(node, kind)
            put_slots(nodes, 0, [None, ("f", 7), None, ("d", 3), ("dd", 9)])
            put_slots(nodes, 3, [("f", 7), ("e", 5), None])
            put_slots(nodes, 5, [None, None])
            nodes.finish()
            want = [("/d", 3), ("/d/e", 5), ("/d/f", 7), ("/dd", 9), ("/f", 7)]
            self.assertEqual([walk(nodes), walk(nodes)], [want, want])

    def test_paths_rise_whatever_the_slots(self):
        draws = Draws(3)
        nodes = PlainNodes(1000)
        want = []
        for node in range(1, 12):
            nodes.begin_node(node, "dir")
        nodes.begin_node(12, "file")
        path = ""
        for node in range(11):
            names = sorted(NAMES, key=lambda name: draws.below(99))[:9]
            put_slots(nodes, node, [(names[0], node + 1)] + [(name, 12) for name in names[1:]])
            want += [(f"{path}/{names[0]}", node + 1)] + [(f"{path}/{name}", 12) for name in names[1:]]
            path += "/" + names[0]
        self.assertEqual(walk(nodes), sorted(want))


if __name__ == "__main__":
    unittest.main()
