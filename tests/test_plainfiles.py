"""Plain files, alone and beside files on a disk of 48 blocks more."""

import unittest

from helper import NAMES, FileDeeds, Plain, all_told, disk_files, outcome, refused
from ownroom.plainfiles import PlainFiles
from ownroom.trees import tree


class TestPlainFiles(Plain, FileDeeds, unittest.TestCase):
    def test_blocks_as_told(self):
        for blocks in (1, 2, 12, 192):
            files = PlainFiles(blocks)
            self.assertEqual((files.free(), files.names("/"), files.stat(0)), ((23, blocks), [], ("dir", 1, 0)))

    def test_a_row_of_all_deeds(self):
        files = PlainFiles(12)
        for call, want in ((("make_dir", "/d"), 1), (("make", "/d/f"), 2), (("link", "/d/f", "/g"), None),
                           (("write_at", 2, 2, [5, 6]), 2), (("read_at", 2, 1, 9), [0, 5, 6]), (("find", "/g"), 2),
                           (("stat", 2), ("file", 2, 4)), (("stat", 0), ("dir", 1, 2)), (("free",), (21, 9)),
                           (("move", "/d/f", "/d/h"), None), (("names", "/d"), ["h"]), (("hold", 2), None),
                           (("unlink", "/g"), None), (("unlink", "/d/h"), None), (("stat", 2), ("file", 0, 4)),
                           (("cut", 2, 65), None), (("free",), (21, 4)), (("remove_dir", "/d"), None),
                           (("free",), (22, 5)), (("loose", 2), None), (("free",), (23, 11)), (("names", "/"), [])):
            self.assertEqual(getattr(files, call[0])(*call[1:]), want, call)

    def test_two_of_them(self):
        one, other = PlainFiles(12), PlainFiles(12)
        one.make("/a")
        one.hold(1)
        self.assertEqual((one.names("/"), other.names("/"), tree(other)), (["a"], [], []))
        other.make("/b")
        self.assertEqual(outcome(other.loose, 1), refused("NotHeld"))
        other.cut(1, 64)
        self.assertEqual((tree(one), one.free(), other.free()), ([("/a", "file", 1, [])], (22, 11), (22, 7)))

    def test_a_held_file_without_names(self):
        files = PlainFiles(30)
        files.make("/f")
        files.write_at(1, 0, [1] * 32)
        for turn in range(3):
            files.hold(1)
        files.unlink("/f")
        self.assertEqual((files.stat(1), tree(files), files.free()), (("file", 0, 32), [], (22, 27)))
        self.assertEqual((files.write_at(1, 30, [2] * 32), files.read_at(1, 29, 3)), (32, [1, 2, 2]))
        files.cut(1, 320)
        self.assertEqual(files.free(), (22, 8))
        self.refuse(files, "TooBig", "cut", 1, 321)
        files.loose(1)
        files.hold(1)
        files.loose(1)
        files.loose(1)
        self.assertEqual(files.stat(1), ("file", 0, 320))
        files.loose(1)
        self.assertEqual(files.free(), (23, 29))
        for call in (("stat", 1), ("read_at", 1, 0, 1), ("write_at", 1, 0, [1]), ("cut", 1, 0), ("hold", 1),
                     ("loose", 1)):
            self.refuse(files, "NoNode", *call)
        self.assertEqual((files.make("/g"), files.read_at(1, 0, 320)), (1, []))


class TestBesideADisk(unittest.TestCase):
    def both(self, blocks, calls):
        """Both makes tell the same, deed by deed; what they tell."""
        told = []
        makes = (disk_files(blocks), PlainFiles(blocks))
        for call in calls:
            one, other = [outcome(getattr(files, call[0]), *call[1:]) for files in makes]
            self.assertEqual(one, other, call)
            self.assertEqual(all_told(makes[0]), all_told(makes[1]), call)
            self.assertEqual(tree(makes[0]), tree(makes[1]), call)
            told.append(one)
        return told

    def test_files_of_each_size(self):
        for blocks in (1, 2, 6, 22, 192):
            for size in (0, 1, 16, 17, 64, 65, 319, 320):
                calls = [("make", "/f"), ("cut", 1, size), ("free",), ("write_at", 1, max(size - 32, 0), [3] * 32),
                         ("free",), ("cut", 1, size // 2), ("free",), ("read_at", 1, 0, 320), ("unlink", "/f"),
                         ("free",)]
                told = self.both(blocks, calls)
                used = len(range(0, size, 16)) + (size > 64)
                self.assertEqual(told[2], ("told", (22, blocks - 1 - (used if used < blocks else 0))))
                self.assertEqual(told[-1], ("told", (23, blocks - 1)))

    def test_dirs_of_each_size(self):
        for slots in (0, 1, 2, 3, 8, 9, 40):
            links = [("link", "/f", "/d/" + name) for name in NAMES[:slots]]
            unlinks = [("unlink", "/d/" + name) for name in NAMES[:slots]]
            told = self.both(192, [("make", "/f"), ("make_dir", "/d")] + links + [("free",)] + unlinks
                             + [("free",), ("stat", 2), ("remove_dir", "/d"), ("free",)])
            used = len(range(0, 8 * slots, 16)) + (slots > 8)
            self.assertEqual([told[2 + slots], told[3 + 2 * slots]], [("told", (21, 191 - used))] * 2)
            self.assertEqual(told[-3:], [("told", ("dir", 1, slots)), ("told", None), ("told", (22, 191))])

    def test_all_nodes(self):
        makes = [("make_dir" if k % 2 else "make", "/" + name) for k, name in enumerate(NAMES[:25])]
        frees = [("unlink", "/" + NAMES[4]), ("remove_dir", "/" + NAMES[1]), ("remove_dir", "/" + NAMES[19])]
        told = self.both(60, makes + frees + [("make", "/" + name) for name in "pqrs"] + [("free",)])
        self.assertEqual(told[:25], [("told", node) for node in range(1, 24)] + [refused("NoNode")] * 2)
        self.assertEqual(told[-5:-1], [("told", 2), ("told", 5), ("told", 20), refused("NoNode")])
        self.assertEqual(told[-1][1][0], 0)


if __name__ == "__main__":
    unittest.main()
