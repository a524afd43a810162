"""The deeds by nodes, tried on files of both makes."""

import unittest

from helper import LONG, FileDeeds, OnADisk, Plain, all_told, use_up

NO_NODES = (-1, -24, 3, 23, 24, 25, LONG, -LONG)
NO_PLACES = (-1, -2, -320, -LONG, 321, 322, 1000, LONG)
SIZES = (0, 1, 15, 16, 17, 31, 33, 63, 64, 65, 80, 160, 319, 320)


def cells(size, seed=1):
    return [1 + (seed * 37 + k) % 255 for k in range(size)]


def blocks_of(size):
    """As the document tells: one for each 16 cells begun, one more above 64."""
    return len(range(0, size, 16)) + (1 if size > 64 else 0)


class Deeds(FileDeeds):
    def two(self, blocks=60):
        """A file, 1, and a dir, 2."""
        files = self.files(blocks)
        files.make("/f")
        files.make_dir("/d")
        return files

    def put(self, files, node, whole):
        for at in range(0, len(whole), 32):
            self.assertEqual(files.write_at(node, at, whole[at:at + 32]), len(whole[at:at + 32]))

    def of_cells(self, size, blocks=60):
        """As two, the file with so many cells."""
        files = self.two(blocks)
        self.put(files, 1, cells(size))
        return files

    def whole(self, files):
        return files.read_at(1, 0, 320)


class Reads(Deeds):
    def test_stat(self):
        files = self.of_cells(70)
        self.assertEqual([files.stat(n) for n in (0, 1, 2)], [("dir", 1, 2), ("file", 1, 70), ("dir", 1, 0)])
        files.link("/f", "/d/g")
        files.link("/f", "/d/h")
        self.assertEqual([files.stat(n) for n in (0, 1, 2)], [("dir", 1, 2), ("file", 3, 70), ("dir", 1, 2)])
        files.hold(1)
        for path, left in (("/d/g", 2), ("/f", 1), ("/d/h", 0)):
            files.unlink(path)
            self.assertEqual(files.stat(1), ("file", left, 70))

    def test_read_at(self):
        for size in SIZES:
            files = self.of_cells(size)
            for at in (0, 1, 15, 16, 17, 64, max(size - 1, 0), size, min(size + 1, 320), 319, 320):
                for many in (0, 1, 2, 16, 17, 32, size, 320):
                    self.assertEqual(files.read_at(1, at, many), cells(size)[at:at + many])

    def test_read_at_and_behind_the_end(self):
        files = self.of_cells(20)
        for at, many, want in ((19, 5, cells(20)[19:]), (20, 5, []), (21, 5, []), (320, 320, []), (0, 0, []),
                               (20, 0, []), (320, 0, []), (0, 21, cells(20)), (0, 320, cells(20))):
            self.assertEqual(files.read_at(1, at, many), want)

    def test_reading_changes_nothing(self):
        files = self.of_cells(100)
        before = all_told(files)
        for at in range(0, 321, 7):
            files.read_at(1, at, at)
        self.assertEqual(all_told(files), before)


class Writes(Deeds):
    def test_blocks_of_files(self):
        for size in (0, 1, 15, 16, 17, 32, 33, 64, 65, 80, 81, 319, 320):
            for files in (self.of_cells(size), self.two()):
                files.cut(1, size)
                self.assertEqual((files.stat(1), files.free()), (("file", 1, size), (21, 59 - blocks_of(size))))

    def test_write_at_no_cells(self):
        files = self.of_cells(20)
        before = all_told(files)
        for at in (0, 5, 19, 20, 21, 100, 319, 320):
            self.assertEqual(files.write_at(1, at, []), 0)
            self.assertEqual(all_told(files), before)

    def test_write_at_each_place(self):
        for size in (0, 1, 16, 40, 64, 65, 320):
            for at in (0, 1, 15, 16, 17, 31, 33, 60, 63, 64, 65, 100, 200, 288, 300, 319, 320):
                for many in (1, 2, 16, 17, 32):
                    if at + many > 320:
                        continue
                    files = self.of_cells(size)
                    self.assertEqual(files.write_at(1, at, cells(many, 9)), many)
                    want = cells(size) + [0] * (at - size)
                    want = want[:at] + cells(many, 9) + want[at + many:]
                    self.assertEqual((self.whole(files), files.stat(1)), (want, ("file", 1, len(want))))
                    self.assertEqual(files.free(), (21, 59 - blocks_of(len(want))))

    def test_write_at_the_last_places(self):
        files = self.two()
        self.assertEqual(files.write_at(1, 319, [7]), 1)
        self.assertEqual((self.whole(files), files.free()[1]), ([0] * 319 + [7], 38))
        self.assertEqual(files.write_at(1, 320, []), 0)
        self.refuse(files, "TooBig", "write_at", 1, 320, [7])
        self.refuse(files, "TooBig", "write_at", 1, 319, [7, 7])
        self.refuse(files, "TooBig", "write_at", 1, 289, [7] * 32)
        self.assertEqual(files.write_at(1, 288, [5] * 32), 32)

    def test_write_noughts_and_greatest_cells(self):
        files = self.of_cells(50)
        files.write_at(1, 10, [0] * 20)
        files.write_at(1, 45, [255] * 20)
        self.assertEqual(self.whole(files), cells(50)[:10] + [0] * 20 + cells(50)[30:45] + [255] * 20)

    def test_write_the_same_again(self):
        files = self.of_cells(50)
        before = all_told(files)
        self.assertEqual(files.write_at(1, 7, cells(50)[7:39]), 32)
        self.assertEqual(all_told(files), before)

    def test_more_cells_than_asked_for_are_no_matter(self):
        files = self.two()
        self.assertEqual(files.write_at(1, 250, cells(64)), 64)
        self.assertEqual(self.whole(files), [0] * 250 + cells(64))

    def test_cut(self):
        for size in SIZES:
            for other in SIZES:
                files = self.of_cells(size)
                self.assertIsNone(files.cut(1, other))
                want = (cells(size) + [0] * 320)[:max(size, other)][:other]
                self.assertEqual((self.whole(files), files.stat(1)), (want, ("file", 1, other)))
                self.assertEqual(files.free(), (21, 59 - blocks_of(other)))

    def test_cut_shorter_then_longer(self):
        for size in (17, 64, 65, 320):
            for shorter in (0, 1, 10, 16, 17, 63, 64):
                for longer in (shorter, shorter + 1, 64, 65, 320):
                    if shorter > min(size, longer):
                        continue
                    files = self.of_cells(size)
                    files.cut(1, shorter)
                    files.cut(1, longer)
                    self.assertEqual(self.whole(files), cells(size)[:shorter] + [0] * (longer - shorter))

    def test_cut_shorter_then_written_behind(self):
        files = self.of_cells(320)
        files.cut(1, 5)
        files.write_at(1, 14, [9])
        self.assertEqual(self.whole(files), cells(5) + [0] * 9 + [9])
        files.write_at(1, 70, [8])
        self.assertEqual(self.whole(files), cells(5) + [0] * 9 + [9] + [0] * 55 + [8])

    def test_blocks_of_one_file_come_to_another(self):
        files = self.of_cells(320, 30)
        files.make("/g")
        self.refuse(files, "NoSpace", "cut", 3, 320)
        files.cut(1, 0)
        files.cut(3, 320)
        self.assertEqual(files.read_at(3, 0, 320), [0] * 320)
        self.refuse(files, "NoSpace", "write_at", 1, 288, [1] * 32)
        files.unlink("/g")
        self.put(files, 1, cells(320, 4))
        self.assertEqual(self.whole(files), cells(320, 4))

    def test_files_do_not_touch_one_another(self):
        files = self.files(192)
        wholes = {}
        for turn in range(80):
            node = 1 + turn % 7
            if node not in wholes:
                self.assertEqual(files.make("/" + "abcdefg"[node - 1]), node)
                wholes[node] = []
            if turn % 3 == 2:
                size = turn * 53 % 321
                files.cut(node, size)
                wholes[node] = (wholes[node] + [0] * 320)[:size]
            else:
                at = turn * 41 % 289
                files.write_at(node, at, cells(32, turn))
                old = wholes[node] + [0] * (at - len(wholes[node]))
                wholes[node] = old[:at] + cells(32, turn) + old[at + 32:]
            self.assertEqual({n: files.read_at(n, 0, 320) for n in wholes}, wholes)


class Refusals(Deeds):
    def test_no_node(self):
        files = self.of_cells(20)
        for node in NO_NODES:
            self.refuse(files, "NoNode", "stat", node)
            self.refuse(files, "NoNode", "hold", node)
            self.refuse(files, "NoNode", "loose", node)
            for at in (0, -1, 321, LONG):
                self.refuse(files, "NoNode", "read_at", node, at, at)
                self.refuse(files, "NoNode", "write_at", node, at, [1])
                self.refuse(files, "NoNode", "write_at", node, at, [])
                self.refuse(files, "NoNode", "cut", node, at)

    def test_a_node_that_was_freed(self):
        files = self.of_cells(20)
        files.unlink("/f")
        files.remove_dir("/d")
        for node in (1, 2):
            for deed in (("stat",), ("hold",), ("loose",), ("read_at", 0, 0), ("write_at", 0, []), ("cut", 0)):
                self.refuse(files, "NoNode", deed[0], node, *deed[1:])

    def test_is_dir(self):
        files = self.of_cells(20)
        for node in (0, 2):
            self.refuse(files, "IsDir", "hold", node)
            for at in (0, -1, 321, -LONG):
                self.refuse(files, "IsDir", "read_at", node, at, at)
                self.refuse(files, "IsDir", "write_at", node, at, [1])
                self.refuse(files, "IsDir", "write_at", node, at, [])
                self.refuse(files, "IsDir", "cut", node, at)

    def test_too_big(self):
        files = self.of_cells(20)
        for wrong in NO_PLACES:
            for right in (0, 20, 320):
                self.refuse(files, "TooBig", "read_at", 1, wrong, right)
                self.refuse(files, "TooBig", "read_at", 1, right, wrong)
            self.refuse(files, "TooBig", "read_at", 1, wrong, wrong)
            self.refuse(files, "TooBig", "write_at", 1, wrong, [])
            self.refuse(files, "TooBig", "write_at", 1, wrong, [1])
            self.refuse(files, "TooBig", "write_at", 1, wrong, [1] * 32)
            self.refuse(files, "TooBig", "cut", 1, wrong)
        for at in range(289, 321):
            self.refuse(files, "TooBig", "write_at", 1, at, [1] * (321 - at))
        self.assertEqual(files.read_at(1, 320, 320), [])

    def test_no_space(self):
        for size, blocks in ((1, 1), (16, 1), (17, 2), (64, 4), (65, 6), (80, 6), (81, 7), (320, 21)):
            files = self.two(1 + blocks - 1)
            self.refuse(files, "NoSpace", "cut", 1, size)
            self.refuse(files, "NoSpace", "write_at", 1, size - 1, [1])
            files = self.two(1 + blocks)
            files.cut(1, size)
            self.assertEqual(files.free(), (21, 0))
            files.write_at(1, size - 1, [1])
            self.assertEqual(self.whole(files), [0] * (size - 1) + [1])
            files.cut(1, 0)
            files.write_at(1, size - 1, [1])
            self.assertEqual(self.whole(files), [0] * (size - 1) + [1])

    def test_no_space_for_the_last_block(self):
        files = self.of_cells(60, 6)
        files.make_dir("/d/e")
        self.assertEqual(files.free()[1], 0)
        files.write_at(1, 60, cells(4))
        before = self.whole(files)
        for at in (33, 60, 64):
            self.refuse(files, "NoSpace", "write_at", 1, at, [1] * 32)
        self.refuse(files, "NoSpace", "cut", 1, 65)
        files.cut(1, 64)
        self.assertEqual(self.whole(files), before)
        files.write_at(1, 32, cells(32, 8))
        files.cut(1, 63)
        self.assertEqual(self.whole(files), (before[:32] + cells(32, 8))[:63])

    def test_too_big_ahead_of_no_space(self):
        files = self.two(1)
        self.refuse(files, "NoSpace", "write_at", 1, 0, [1])
        self.refuse(files, "TooBig", "write_at", 1, 321, [1])
        self.refuse(files, "TooBig", "write_at", 1, 320, [1])
        self.refuse(files, "TooBig", "cut", 1, 321)
        self.refuse(files, "NoSpace", "cut", 1, 320)
        self.assertEqual(files.write_at(1, 320, []), 0)
        files.cut(1, 0)

    def test_two_blocks_for_the_sixty_fifth_cell(self):
        files = self.of_cells(64, 20)
        files.make("/d/p")
        for free in (0, 1):
            use_up(files, [3], free)
            self.refuse(files, "NoSpace", "cut", 1, 65)
            self.refuse(files, "NoSpace", "write_at", 1, 64, [1])
        use_up(files, [3], 2)
        self.assertEqual(files.write_at(1, 64, [1]), 1)
        self.assertEqual(files.free()[1], 0)


class Holds(Deeds):
    def test_hold_and_loose_change_nothing_told(self):
        files = self.of_cells(20)
        before = all_told(files)
        for many in (1, 2, 5):
            for turn in range(many):
                self.assertIsNone(files.hold(1))
            for turn in range(many):
                self.assertIsNone(files.loose(1))
            self.refuse(files, "NotHeld", "loose", 1)
        self.assertEqual(all_told(files), before)

    def test_not_held(self):
        files = self.of_cells(20)
        for node in (0, 1, 2):
            self.refuse(files, "NotHeld", "loose", node)
        files.make("/g")
        files.hold(1)
        self.refuse(files, "NotHeld", "loose", 3)

    def test_unlink_of_a_held_file(self):
        for many in (1, 2, 3):
            files = self.of_cells(70)
            for turn in range(many):
                files.hold(1)
            files.unlink("/f")
            self.assertEqual((files.names("/"), files.stat(1), self.whole(files)), (["d"], ("file", 0, 70), cells(70)))
            self.assertEqual(files.free(), (21, 53))
            self.assertEqual(files.make("/f"), 3)
            files.write_at(1, 60, [9] * 32)
            self.assertEqual(self.whole(files), cells(60) + [9] * 32)
            files.cut(1, 320)
            files.cut(1, 30)
            self.assertEqual((self.whole(files), files.free()), (cells(30), (20, 57)))
            for turn in range(many - 1):
                files.loose(1)
                self.assertEqual((files.stat(1), files.free()), (("file", 0, 30), (20, 57)))
            files.loose(1)
            self.assertEqual(files.free(), (21, 59))
            self.refuse(files, "NoNode", "stat", 1)
            self.refuse(files, "NoNode", "loose", 1)
            self.assertEqual(files.make("/g"), 1)
            self.refuse(files, "NotHeld", "loose", 1)
            self.assertEqual((files.stat(1), self.whole(files)), (("file", 1, 0), []))

    def test_loosed_ahead_of_unlink(self):
        files = self.of_cells(70)
        files.hold(1)
        files.loose(1)
        self.assertEqual(files.stat(1), ("file", 1, 70))
        files.unlink("/f")
        self.assertEqual(files.free(), (22, 59))

    def test_a_held_file_that_is_linked_and_moved(self):
        files = self.of_cells(70)
        files.hold(1)
        files.link("/f", "/d/g")
        files.unlink("/f")
        files.move("/d/g", "/h")
        self.assertEqual((files.find("/h"), files.stat(1)), (1, ("file", 1, 70)))
        files.hold(1)
        files.loose(1)
        files.loose(1)
        self.assertEqual((files.find("/h"), files.stat(1), self.whole(files)), (1, ("file", 1, 70), cells(70)))
        files.unlink("/h")
        self.refuse(files, "NoNode", "stat", 1)

    def test_a_file_without_names_is_held_again(self):
        files = self.of_cells(20)
        files.hold(1)
        files.unlink("/f")
        files.hold(1)
        files.loose(1)
        self.assertEqual(files.stat(1), ("file", 0, 20))
        files.loose(1)
        self.refuse(files, "NoNode", "hold", 1)

    def test_held_files_without_names_keep_their_nodes(self):
        files = self.files(60)
        for node in range(1, 24):
            self.assertEqual(files.make("/f"), node)
            files.hold(node)
            files.unlink("/f")
        self.assertEqual(files.free(), (0, 59))
        self.refuse(files, "NoNode", "make", "/f")
        files.loose(17)
        self.assertEqual(files.make("/f"), 17)


class Lists(Deeds):
    def test_cells_handed_in(self):
        files = self.two()
        given = cells(20)
        files.write_at(1, 0, given)
        self.assertEqual(given, cells(20))
        given[0] = 99
        given.append(98)
        self.assertEqual(self.whole(files), cells(20))
        same = [5] * 32
        files.write_at(1, 0, same)
        files.make("/g")
        files.write_at(3, 0, same)
        files.write_at(3, 0, [6])
        self.assertEqual((self.whole(files), same), ([5] * 32, [5] * 32))

    def test_lists_told(self):
        files = self.of_cells(100)
        asks = (lambda: files.read_at(1, 0, 320), lambda: files.read_at(1, 0, 100), lambda: files.read_at(1, 0, 0),
                lambda: files.read_at(1, 320, 5), lambda: files.names("/"), lambda: files.names("/d"))
        for ask in asks:
            told = ask()
            again = ask()
            self.assertIsInstance(told, list)
            self.assertIsNot(told, again)
            told.insert(0, 7)
            told.append("z")
            self.assertEqual(ask(), again)
            self.assertEqual(all_told(files), all_told(self.of_cells(100)))

    def test_what_was_told_stays(self):
        files = self.of_cells(100)
        told = (self.whole(files), files.names("/"), files.free(), files.stat(1))
        files.cut(1, 3)
        files.unlink("/f")
        self.assertEqual(told, (cells(100), ["d", "f"], (21, 51), ("file", 1, 100)))

    def test_what_was_told_is_handed_in(self):
        files = self.of_cells(30)
        files.make("/g")
        told = self.whole(files)
        files.write_at(3, 0, told)
        files.write_at(3, 1, [77])
        self.assertEqual((told, self.whole(files)), (cells(30), cells(30)))


class TestReadsOnADisk(OnADisk, Reads, unittest.TestCase):
    pass


class TestPlainReads(Plain, Reads, unittest.TestCase):
    pass


class TestWritesOnADisk(OnADisk, Writes, unittest.TestCase):
    pass


class TestPlainWrites(Plain, Writes, unittest.TestCase):
    pass


class TestRefusalsOnADisk(OnADisk, Refusals, unittest.TestCase):
    pass


class TestPlainRefusals(Plain, Refusals, unittest.TestCase):
    pass


class TestHoldsOnADisk(OnADisk, Holds, unittest.TestCase):
    pass


class TestPlainHolds(Plain, Holds, unittest.TestCase):
    pass


class TestListsOnADisk(OnADisk, Lists, unittest.TestCase):
    pass


class TestPlainLists(Plain, Lists, unittest.TestCase):
    pass


if __name__ == "__main__":
    unittest.main()
