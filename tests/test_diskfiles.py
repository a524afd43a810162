"""What files on a disk have to do with the disk: format, mount, the writes of deeds, and falls."""

import unittest

from helper import Draws, all_told, disk_files, disk_of, formatted, outcome, refused, use_up
from ownroom.diskfiles import DiskFiles, format_disk, mount
from ownroom.disks import Disk

EMPTY = {"/": (0, ("told", []))}


def used(blocks=60):
    """A disk with dirs and files: a and b one node, c and d/z short, d/x long; d and d/e dirs, e without names."""
    disk = formatted(blocks)
    files = mount(disk)
    for path in ("/a", "/c"):
        files.make(path)
    for path in ("/d", "/d/e"):
        files.make_dir(path)
    for path in ("/d/x", "/d/z"):
        files.make(path)
    files.link("/a", "/b")
    files.write_at(1, 3, [1, 2, 3])
    files.write_at(2, 20, [4] * 32)
    files.write_at(5, 100, [5] * 30)
    files.write_at(6, 0, [6])
    return disk


def holding(disk):
    """Files that hold nodes: 2 and 5 without names, 6 with one."""
    files = mount(disk)
    for node in (2, 5, 6, 6):
        files.hold(node)
    files.unlink("/c")
    files.unlink("/d/x")
    return files


def fill_names(files, path, many):
    """So many names for the file a in a dir."""
    for name in [first + second for first in "abcdefgh" for second in "vwxyz"][:many]:
        files.link("/a", f"{path}/{name}")


def nothing(files):
    pass


def writes_of(disk, deed, *given):
    """How many writes a deed has."""
    before = disk.writes()
    deed(*given)
    return disk.writes() - before


# Each with what is done ahead of it: what it holds and what it needs.
DEEDS = (
    (nothing, "make", "/new"),
    (nothing, "make", "/d/e/new"),
    (nothing, "make_dir", "/new"),
    (nothing, "make_dir", "/d/e/new"),
    (lambda files: fill_names(files, "/d/e", 8), "make", "/d/e/new"),
    (nothing, "link", "/a", "/d/e/new"),
    (nothing, "link", "/d/x", "/new"),
    (nothing, "unlink", "/a"),
    (nothing, "unlink", "/c"),
    (nothing, "unlink", "/d/x"),
    (lambda files: files.hold(5), "unlink", "/d/x"),
    (nothing, "remove_dir", "/d/e"),
    (lambda files: (fill_names(files, "/d/e", 1), files.unlink("/d/e/av")), "remove_dir", "/d/e"),
    (nothing, "move", "/a", "/z"),
    (nothing, "move", "/a", "/d/e/new"),
    (nothing, "move", "/d/e", "/e"),
    (nothing, "move", "/d", "/f"),
    (lambda files: fill_names(files, "/d/e", 8), "move", "/d/x", "/d/e/new"),
    (nothing, "write_at", 1, 0, [9]),
    (nothing, "write_at", 1, 5, [9] * 32),
    (nothing, "write_at", 6, 288, [9] * 32),
    (nothing, "write_at", 5, 60, [9] * 32),
    (nothing, "cut", 6, 320),
    (nothing, "cut", 5, 64),
    (nothing, "cut", 5, 0),
    (nothing, "cut", 5, 129),
    (lambda files: (files.hold(5), files.unlink("/d/x"), files.unlink("/c")), "loose", 5),
    (lambda files: (files.hold(1), files.unlink("/a"), files.unlink("/b")), "write_at", 1, 300, [9] * 20),
    (lambda files: (files.hold(2), files.unlink("/c")), "make", "/new"),
)


class TestFormat(unittest.TestCase):
    def empty(self, disk, blocks):
        by_path, by_node, free = all_told(mount(disk))
        self.assertEqual((by_path, free), (EMPTY, (23, blocks)))
        self.assertEqual(by_node[0][0], ("told", ("dir", 1, 0)))

    def test_a_new_disk(self):
        for blocks in (1, 2, 60, 192):
            disk = Disk(48 + blocks)
            self.assertIsNone(format_disk(disk))
            self.empty(disk, blocks)

    def test_a_used_disk(self):
        disk = used()
        format_disk(disk)
        self.empty(disk, 60)
        format_disk(disk)
        self.empty(disk, 60)
        files = mount(disk)
        self.assertEqual(files.make("/a"), 1)
        files.cut(1, 320)
        self.assertEqual(files.read_at(1, 0, 320), [0] * 320)

    def test_a_full_disk(self):
        disk = formatted(192)
        files = mount(disk)
        for name in "abcdefghijklmnopqrstuvw":
            files.make("/" + name)
        use_up(files, range(1, 24), 0)
        self.assertEqual(files.free(), (0, 0))
        format_disk(disk)
        self.empty(disk, 192)

    def test_a_disk_with_anything_on_it(self):
        draws = Draws(5)
        for seed in range(10):
            disk = disk_of([[draws.below(65536) for k in range(16)] for n in range(49 + 19 * seed)])
            format_disk(disk)
            self.empty(disk, 1 + 19 * seed)

    def test_behind_a_fall_in_the_midst_of_a_commit(self):
        disk = used()
        for at in range(writes_of(disk, mount(disk).write_at, 6, 100, [9] * 32)):
            disk = used()
            files = mount(disk)
            disk.fall(at)
            self.assertEqual(outcome(files.write_at, 6, 100, [9] * 32), refused("Fallen"))
            disk.rise()
            format_disk(disk)
            self.empty(disk, 60)
            self.empty(disk_of(disk.image()), 60)

    def test_behind_a_fall_at_the_first_deed(self):
        disk = formatted(5)
        for at in range(writes_of(disk, mount(disk).make, "/a")):
            disk = formatted(5)
            files = mount(disk)
            disk.fall(at)
            self.assertEqual(outcome(files.make, "/a"), refused("Fallen"))
            disk.rise()
            format_disk(disk)
            self.empty(disk, 5)

    def test_a_fallen_disk(self):
        disk = used()
        disk.fall(0)
        outcome(disk.write, 60, [0] * 16)
        self.assertEqual(outcome(format_disk, disk), refused("Fallen"))
        self.assertEqual(outcome(mount, disk), refused("Fallen"))

    def test_a_format_that_falls_is_asked_again(self):
        start = used().image()
        disk = disk_of(start)
        for at in range(writes_of(disk, format_disk, disk)):
            other = disk_of(start)
            other.fall(at)
            self.assertEqual(outcome(format_disk, other), refused("Fallen"))
            other.rise()
            format_disk(other)
            self.empty(other, 60)


class TestMount(unittest.TestCase):
    def test_it_tells_diskfiles(self):
        self.assertIsInstance(mount(formatted(1)), DiskFiles)

    def test_behind_deeds_it_tells_what_stood(self):
        disk = used()
        before = all_told(mount(disk))
        self.assertEqual(before[0]["/d"], (3, ("told", ["e", "x", "z"])))
        image, done = disk.image(), disk.writes()
        for turn in range(3):
            self.assertEqual(all_told(mount(disk)), before)
        self.assertEqual((disk.image(), disk.writes()), (image, done))

    def test_behind_each_deed(self):
        disk = used()
        files = mount(disk)
        for call in (("make", "/new"), ("cut", 7, 320), ("move", "/new", "/d/e/n"), ("link", "/d/e/n", "/n"),
                     ("unlink", "/d/x"), ("move", "/d", "/f"), ("cut", 7, 3), ("unlink", "/n")):
            getattr(files, call[0])(*call[1:])
            self.assertEqual(all_told(mount(disk)), all_told(files))

    def test_a_disk_made_anew_of_an_image(self):
        disk = used()
        anew = disk_of(disk.image())
        files, others = mount(disk), mount(anew)
        self.assertEqual(all_told(others), all_told(files))
        others.unlink("/d/x")
        self.assertEqual(files.find("/d/x"), 5)
        self.assertNotEqual(anew.image(), disk.image())

    def test_holds_are_not_on_the_disk(self):
        disk = used()
        image = disk.image()
        files = mount(disk)
        files.hold(1)
        files.hold(6)
        self.assertEqual(disk.image(), image)
        again = mount(disk)
        self.assertEqual(outcome(again.loose, 1), refused("NotHeld"))
        files.loose(1)
        self.assertEqual(disk.image(), image)

    def test_nodes_without_names_are_freed(self):
        disk = used()
        files = holding(disk)
        free = files.free()
        self.assertEqual([files.stat(n) for n in (2, 5, 6)], [("file", 0, 52), ("file", 0, 130), ("file", 1, 1)])
        again = mount(disk)
        self.assertEqual(again.free(), (free[0] + 2, free[1] + 4 + 10))
        self.assertEqual([outcome(again.stat, n) for n in (2, 5)], [refused("NoNode")] * 2)
        self.assertEqual((again.stat(6), again.names("/d")), (("file", 1, 1), ["e", "z"]))
        done = disk.writes()
        self.assertEqual(all_told(mount(disk)), all_told(again))
        self.assertEqual(disk.writes(), done)
        self.assertEqual([again.make("/p"), again.make("/q")], [2, 5])

    def test_all_nodes_without_names(self):
        disk = formatted(30)
        files = mount(disk)
        for node in range(1, 24):
            files.make("/f")
            files.hold(node)
            files.write_at(node, 0, [node])
            files.unlink("/f")
        self.assertEqual(files.free(), (0, 30 - 1 - 23))
        again = mount(disk)
        self.assertEqual((again.free(), again.names("/"), again.stat(0)), ((23, 29), [], ("dir", 1, 1)))

    def test_a_mount_that_falls_is_asked_again(self):
        disk = used()
        many = writes_of(disk, holding(disk).make, "/d/new")
        for stopped in range(many + 1):
            disk = used()
            files = holding(disk)
            disk.fall(stopped)
            self.assertEqual(outcome(files.make, "/d/new"), refused("Fallen") if stopped < many else ("told", 7))
            start = disk.image()
            whole = disk_of(start)
            many_of_mount = writes_of(whole, mount, whole)
            self.assertLess(0, many_of_mount)
            for at in range(many_of_mount):
                other = disk_of(start)
                other.fall(at)
                self.assertEqual(outcome(mount, other), refused("Fallen"))
                # Once more, at an earlier one of its writes, if it has so many left.
                other.rise()
                other.fall(at // 2)
                outcome(mount, other)
                other.rise()
                self.assertEqual(all_told(mount(other)), all_told(mount(whole)))

    def test_mount_twice(self):
        disk = used()
        first = mount(disk)
        second = mount(disk)
        second.make("/new")
        self.assertEqual(first.find("/new"), 7)
        self.assertEqual(all_told(first), all_told(second))


class TestWrites(unittest.TestCase):
    def writes(self, disk, deed, *given):
        before, image = disk.writes(), disk.image()
        told = outcome(deed, *given)
        done = disk.writes() - before
        if done == 0:
            self.assertEqual(disk.image(), image)
        return told, done

    def test_what_changes_nothing_writes_nothing(self):
        disk = used()
        files = mount(disk)
        for call in (("find", "/d/x"), ("find", "/"), ("names", "/d"), ("stat", 5), ("read_at", 5, 0, 320),
                     ("write_at", 5, 300, []), ("write_at", 5, 100, [5] * 30), ("write_at", 1, 0, [0, 0, 0, 1]),
                     ("cut", 5, 130), ("cut", 1, 6), ("hold", 5), ("hold", 5), ("loose", 5), ("loose", 5), ("free",)):
            told, done = self.writes(disk, getattr(files, call[0]), *call[1:])
            self.assertEqual((told[0], done), ("told", 0), call)

    def test_what_is_refused_writes_nothing(self):
        disk = used(20)
        files = mount(disk)
        self.assertEqual(files.free()[1], 0)
        for call in (("make", "/a"), ("make", "/x/y"), ("make", "/d/e/x"), ("make", "bad"), ("make_dir", "/d/e/x"),
                     ("link", "/a", "/d/e/x"), ("link", "/d", "/x"), ("unlink", "/d"), ("remove_dir", "/d"),
                     ("move", "/a", "/d/e/x"), ("move", "/d", "/d/e/f"), ("write_at", 6, 1, [1] * 32),
                     ("write_at", 5, 320, [1]), ("cut", 6, 320), ("cut", 6, 321), ("loose", 1), ("hold", 0)):
            told, done = self.writes(disk, getattr(files, call[0]), *call[1:])
            self.assertEqual((told[0], done), ("refused", 0), call)

    def test_deeds_write(self):
        for ready, *call in DEEDS:
            disk = used()
            files = mount(disk)
            ready(files)
            told, done = self.writes(disk, getattr(files, call[0]), *call[1:])
            self.assertEqual(told[0], "told", call)
            self.assertLess(0, done, call)


    def test_blocks_are_of_sixteen_numbers(self):
        for ready, *call in DEEDS:
            disk = used()
            files = mount(disk)
            ready(files)
            getattr(files, call[0])(*call[1:])
            for block in disk.image():
                self.assertEqual(len(block), 16)
                self.assertTrue(all(number in range(65536) for number in block), block)


class TestFalls(unittest.TestCase):
    def ahead(self, ready):
        disk = used()
        files = mount(disk)
        ready(files)
        return disk, files

    def test_at_each_write_of_each_deed(self):
        for ready, *call in DEEDS:
            disk, files = self.ahead(ready)
            before = all_told(mount(disk_of(disk.image())))
            many = writes_of(disk, getattr(files, call[0]), *call[1:])
            behind = all_told(mount(disk_of(disk.image())))
            ends = [self.end(ready, call, at) for at in range(many)]
            self.assertEqual([end for end in ends if end not in (before, behind)], [], call)
            self.assertEqual((ends[0], ends[-1]), (before, behind), call)

    def end(self, ready, call, at):
        disk, files = self.ahead(ready)
        disk.fall(at)
        self.assertEqual(outcome(getattr(files, call[0]), *call[1:]), refused("Fallen"), call)
        self.assertEqual(outcome(mount, disk), refused("Fallen"))
        fallen = disk.image()
        disk.rise()
        told = all_told(mount(disk))
        # Nothing but the blocks counts, and a second mount changes nothing.
        self.assertEqual(all_told(mount(disk_of(fallen))), told)
        self.assertEqual(all_told(mount(disk)), told)
        return told

    def test_what_stands_there_is_what_was_told(self):
        for ready, *call in DEEDS:
            if ready is not nothing:
                continue
            disk, files = self.ahead(ready)
            before = all_told(files)
            disk.fall(0)
            self.assertEqual(outcome(getattr(files, call[0]), *call[1:]), refused("Fallen"))
            disk.rise()
            self.assertEqual(all_told(mount(disk)), before)

    def test_with_more_writes_than_a_deed_has_it_is_done(self):
        for ready, *call in DEEDS:
            disk, files = self.ahead(ready)
            many = writes_of(disk, getattr(files, call[0]), *call[1:])
            other, files = self.ahead(ready)
            other.fall(many)
            self.assertEqual(outcome(getattr(files, call[0]), *call[1:])[0], "told")
            self.assertEqual(other.image(), disk.image())

    def test_held_nodes_without_names_are_gone_behind_a_fall(self):
        disk = used()
        for at in range(writes_of(disk, holding(disk).write_at, 1, 0, [7, 7])):
            disk = used()
            files = holding(disk)
            free = files.free()
            disk.fall(at)
            self.assertEqual(outcome(files.write_at, 1, 0, [7, 7]), refused("Fallen"))
            disk.rise()
            again = mount(disk)
            self.assertEqual(again.free(), (free[0] + 2, free[1] + 14))
            self.assertEqual([outcome(again.read_at, n, 0, 9) for n in (2, 5)], [refused("NoNode")] * 2)
            self.assertIn(again.read_at(1, 0, 9), ([0, 0, 0, 1, 2, 3], [7, 7, 0, 1, 2, 3]))

    def test_deeds_that_write_nothing_on_a_disk_that_is_to_fall(self):
        disk = used()
        files = mount(disk)
        before = all_told(files)
        disk.fall(0)
        self.assertEqual(all_told(files), before)
        self.assertEqual(outcome(files.unlink, "/a"), refused("Fallen"))
        self.assertEqual(outcome(files.find, "/a"), refused("Fallen"))

    def test_two_disks(self):
        one, other = disk_files(5), disk_files(5)
        one.make("/a")
        self.assertEqual((one.names("/"), other.names("/")), (["a"], []))


if __name__ == "__main__":
    unittest.main()
