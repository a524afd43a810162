import unittest

from helper import disk_of, outcome, refused
from ownroom.disks import Disk
from ownroom.drafts import Draft
from ownroom.journal import recover


def block(number):
    return [number] * 16


class TestDraft(unittest.TestCase):
    def test_what_is_written_is_read_and_not_on_the_disk_yet(self):
        disk = disk_of([block(n) for n in range(60)])
        done, image = disk.writes(), disk.image()
        draft = Draft(disk)
        self.assertIsNone(draft.write(50, block(7)))
        self.assertIsNone(draft.write(50, block(8)))
        self.assertEqual((draft.read(50), draft.read(51)), (block(8), block(51)))
        self.assertEqual((disk.writes(), disk.image()), (done, image))

    def test_all_are_changed_at_the_finish(self):
        disk = Disk(60)
        draft = Draft(disk)
        for n in range(28, 52):
            draft.write(n, block(n))
        self.assertIsNone(draft.finish())
        self.assertEqual([disk.read(n) for n in range(28, 60)], [block(n) for n in range(28, 52)] + [block(0)] * 8)
        self.assertEqual([draft.read(n) for n in range(28, 52)], [block(n) for n in range(28, 52)])

    def test_a_fall_at_any_write_changes_all_or_none(self):
        start = Disk(60)
        Draft(start).finish()
        whole = Disk(60)
        drafted = Draft(whole)
        for n in (30, 40, 59):
            drafted.write(n, block(n))
        drafted.finish()
        ends = []
        for at in range(whole.writes()):
            disk = Disk(60)
            draft = Draft(disk)
            for n in (30, 40, 59):
                draft.write(n, block(n))
            disk.fall(at)
            self.assertEqual(outcome(draft.finish), refused("Fallen"))
            disk.rise()
            recover(disk)
            ends.append(disk.image()[28:])
        self.assertEqual([end for end in ends if end not in (start.image()[28:], whole.image()[28:])], [])
        self.assertEqual((ends[0], ends[-1]), (start.image()[28:], whole.image()[28:]))

    def test_nothing_is_written_where_nothing_is_changed(self):
        disk = disk_of([block(n) for n in range(60)])
        recover_writes = disk.writes()
        draft = Draft(disk)
        draft.finish()
        draft.write(50, block(50))
        draft.write(51, block(9))
        draft.write(51, block(51))
        draft.finish()
        self.assertEqual(disk.writes(), recover_writes)

    def test_a_second_finish_writes_nothing(self):
        disk = Disk(60)
        draft = Draft(disk)
        draft.write(50, block(5))
        draft.finish()
        disk.write(50, block(6))
        done = disk.writes()
        draft.finish()
        self.assertEqual((disk.writes(), disk.read(50), draft.read(50)), (done, block(6), block(6)))

    def test_lists_are_the_askers_own(self):
        disk = Disk(60)
        draft = Draft(disk)
        given = block(5)
        draft.write(50, given)
        given[0] = 9
        draft.read(50).append(1)
        self.assertEqual(draft.read(50), block(5))
        draft.finish()
        self.assertEqual(disk.read(50), block(5))


if __name__ == "__main__":
    unittest.main()
