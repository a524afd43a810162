import unittest

from helper import LONG, Draws, outcome, refused
from ownroom.disks import Disk

NOUGHTS = [0] * 16
RISING = list(range(65520, 65536))


def block(n):
    return [n] * 16


class TestBlocks(unittest.TestCase):
    def test_all_nought_at_first(self):
        for many in (29, 49, 240):
            disk = Disk(many)
            self.assertEqual(disk.image(), [NOUGHTS] * many)
            self.assertEqual([disk.read(n) for n in range(many)], [NOUGHTS] * many)
            self.assertEqual(disk.writes(), 0)

    def test_what_is_written_is_read(self):
        disk = Disk(29)
        self.assertIsNone(disk.write(0, RISING))
        disk.write(28, block(3))
        disk.write(5, block(4))
        disk.write(5, block(5))
        self.assertEqual((disk.read(0), disk.read(28), disk.read(5)), (RISING, block(3), block(5)))
        want = [NOUGHTS] * 29
        want[0], want[28], want[5] = RISING, block(3), block(5)
        self.assertEqual(disk.image(), want)

    def test_lists_may_be_changed(self):
        disk = Disk(29)
        handed = block(7)
        disk.write(3, handed)
        handed[0] = 1
        handed.append(1)
        disk.read(3)[1] = 1
        image = disk.image()
        image[3][2] = 1
        image[4][2] = 1
        image.pop()
        self.assertEqual((disk.read(3), disk.read(4), len(disk.image())), (block(7), NOUGHTS, 29))
        told = disk.read(3)
        disk.write(3, block(8))
        self.assertEqual(told, block(7))
        disk.write(4, told)
        told[0] = 9
        self.assertEqual(disk.read(4), block(7))

    def test_no_two_lists_are_the_same(self):
        disk = Disk(29)
        disk.write(1, block(1))
        lists = disk.image() + disk.image() + [disk.read(1), disk.read(1), disk.read(2)]
        self.assertEqual(len({id(one) for one in lists}), len(lists))

    def test_writes_counts_what_was_done(self):
        disk = Disk(29)
        for n in range(10):
            disk.write(n % 3, block(n))
            disk.read(n)
            self.assertEqual(disk.writes(), n + 1)
        self.assertEqual(outcome(disk.write, 29, block(1)), refused("NoBlock"))
        disk.fall(1)
        disk.write(1, block(1))
        for turn in range(3):
            self.assertEqual(outcome(disk.write, 1, block(2)), refused("Fallen"))
        self.assertEqual(disk.writes(), 11)
        disk.rise()
        disk.write(1, block(1))
        self.assertEqual(disk.writes(), 12)

    def test_two_disks_have_nothing_in_common(self):
        one, other = Disk(29), Disk(29)
        one.write(3, block(1))
        one.fall(0)
        self.assertEqual(outcome(one.write, 3, block(2)), refused("Fallen"))
        self.assertEqual((other.image(), other.writes()), ([NOUGHTS] * 29, 0))
        other.write(3, block(5))
        self.assertEqual((other.read(3), one.image()[3]), (block(5), block(1)))


class TestFall(unittest.TestCase):
    def fallen(self):
        disk = Disk(29)
        disk.write(2, block(9))
        disk.fall(0)
        self.assertEqual(outcome(disk.write, 2, block(1)), refused("Fallen"))
        return disk

    def test_behind_so_many_writes(self):
        for after in (0, 1, 2, 7):
            disk = Disk(29)
            disk.write(20, block(1))
            self.assertIsNone(disk.fall(after))
            for n in range(after):
                disk.write(n, block(2))
                self.assertEqual(disk.read(n), block(2))
            # It falls at a write: reads ahead of that are no matter.
            self.assertEqual(disk.read(20), block(1))
            self.assertEqual(outcome(disk.write, 20, block(3)), refused("Fallen"))
            self.assertEqual(outcome(disk.read, 20), refused("Fallen"))
            self.assertEqual(outcome(disk.write, 20, block(3)), refused("Fallen"))
            self.assertEqual(disk.image()[20], block(1))
            self.assertEqual(disk.writes(), 1 + after)

    def test_a_fall_far_ahead(self):
        disk = Disk(29)
        disk.fall(LONG)
        for n in range(29):
            disk.write(n, block(n))
        self.assertEqual(disk.read(28), block(28))

    def test_a_fallen_disk(self):
        disk = self.fallen()
        for n in range(29):
            self.assertEqual(outcome(disk.read, n), refused("Fallen"))
            self.assertEqual(outcome(disk.write, n, block(1)), refused("Fallen"))
        want = [NOUGHTS] * 29
        want[2] = block(9)
        self.assertEqual((disk.image(), disk.writes()), (want, 1))

    def test_rise(self):
        disk = self.fallen()
        self.assertIsNone(disk.rise())
        self.assertEqual(disk.read(2), block(9))
        for n in range(29):
            disk.write(n, block(n))
        self.assertEqual(disk.writes(), 30)

    def test_a_fallen_disk_stays_fallen(self):
        for after in (0, 1, 100):
            disk = self.fallen()
            disk.fall(after)
            self.assertEqual(outcome(disk.read, 2), refused("Fallen"))
            self.assertEqual(outcome(disk.write, 2, block(1)), refused("Fallen"))
            disk.rise()
            for turn in range(after + 2):
                disk.write(2, block(1))

    def test_a_later_fall_in_the_place_of_one_ahead(self):
        for first, second in ((0, 3), (3, 0), (2, 2), (1, 4)):
            disk = Disk(29)
            disk.fall(first)
            disk.fall(second)
            for turn in range(second):
                disk.write(turn, block(1))
            self.assertEqual(outcome(disk.write, 9, block(1)), refused("Fallen"))
        disk = Disk(29)
        disk.fall(2)
        disk.write(0, block(1))
        disk.fall(2)
        disk.write(0, block(1))
        disk.write(0, block(1))
        self.assertEqual(outcome(disk.write, 0, block(1)), refused("Fallen"))

    def test_rise_without_a_fall(self):
        disk = Disk(29)
        disk.rise()
        disk.write(1, block(1))
        disk.fall(1)
        disk.rise()
        for turn in range(5):
            disk.write(1, block(2))
        self.assertEqual((disk.read(1), disk.writes()), (block(2), 6))

    def test_a_fall_behind_a_rise(self):
        disk = self.fallen()
        disk.rise()
        disk.fall(1)
        disk.write(0, block(1))
        self.assertEqual(outcome(disk.write, 0, block(2)), refused("Fallen"))
        self.assertEqual(disk.image()[0], block(1))


class TestNoBlock(unittest.TestCase):
    def test_numbers_that_are_no_blocks(self):
        for many in (29, 240):
            disk = Disk(many)
            for n in (-1, -2, -many, many, many + 1, 1000, LONG, -LONG):
                self.assertEqual(outcome(disk.read, n), refused("NoBlock"))
                self.assertEqual(outcome(disk.write, n, block(1)), refused("NoBlock"))
            self.assertEqual((disk.image(), disk.writes()), ([NOUGHTS] * many, 0))

    def test_ahead_of_fallen(self):
        disk = Disk(29)
        disk.fall(0)
        # A write that is refused so is none at which the disk falls.
        self.assertEqual(outcome(disk.write, 29, block(1)), refused("NoBlock"))
        self.assertEqual(outcome(disk.read, 28), ("told", NOUGHTS))
        self.assertEqual(outcome(disk.write, 28, block(1)), refused("Fallen"))
        for n in (-1, 29, LONG, -LONG):
            self.assertEqual(outcome(disk.read, n), refused("NoBlock"))
            self.assertEqual(outcome(disk.write, n, block(1)), refused("NoBlock"))

    def test_not_among_the_writes_ahead_of_a_fall(self):
        disk = Disk(29)
        disk.fall(1)
        for turn in range(3):
            self.assertEqual(outcome(disk.write, -1, block(1)), refused("NoBlock"))
        disk.write(0, block(1))
        self.assertEqual(outcome(disk.write, 0, block(1)), refused("Fallen"))


class TestRows(unittest.TestCase):
    """Rows of deeds beside a plain list, a count of writes and the write at which the disk falls."""

    def test_rows_of_deeds(self):
        for seed in range(30):
            draws = Draws(seed)
            disk, blocks, done, falls_at, down = Disk(30), [NOUGHTS] * 30, 0, None, False
            for turn in range(200):
                deed = draws.one_of(("read", "write", "write", "write", "fall", "rise"))
                n, numbers = draws.below(32) - 1, [draws.below(65536) for k in range(16)]
                if deed == "fall":
                    after = draws.below(6)
                    disk.fall(after)
                    falls_at = done + after
                elif deed == "rise":
                    disk.rise()
                    falls_at, down = None, False
                elif n not in range(30):
                    given = (n,) if deed == "read" else (n, numbers)
                    self.assertEqual(outcome(getattr(disk, deed), *given), refused("NoBlock"))
                elif deed == "read":
                    self.assertEqual(outcome(disk.read, n), refused("Fallen") if down else ("told", blocks[n]))
                else:
                    down = down or falls_at == done
                    self.assertEqual(outcome(disk.write, n, numbers), refused("Fallen") if down else ("told", None))
                    if not down:
                        blocks[n], done = numbers, done + 1
                self.assertEqual((disk.image(), disk.writes()), (blocks, done))


if __name__ == "__main__":
    unittest.main()
