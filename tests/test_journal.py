import unittest

from helper import Draws, disk_of, outcome, refused
from ownroom.disks import Disk
from ownroom.journal import commit, forget, recover

JOURNAL = 28


def numbers(seed):
    draws = Draws(seed)
    return [draws.below(65536) for k in range(16)]


def changes_of(many, blocks, seed):
    """So many changes, of blocks all over a disk."""
    free = blocks - JOURNAL
    return {JOURNAL + (k * free // many): numbers(seed + k) for k in range(many)}


def used_disk(blocks, commits):
    disk = Disk(blocks)
    for seed in range(commits):
        commit(disk, changes_of(1 + seed * 7 % min(24, blocks - JOURNAL), blocks, 100 * seed))
    return disk


def rest(disk):
    return disk.image()[JOURNAL:]


def rest_with(disk, changes):
    return [changes.get(JOURNAL + k, block) for k, block in enumerate(rest(disk))]


def writes_of(image, deed, *given):
    disk = disk_of(image)
    before = disk.writes()
    deed(disk, *given)
    return disk.writes() - before


# The blocks of a disk, and the changes of a commit on it.
SIZES = ((29, 1), (30, 1), (30, 2), (52, 24), (49, 1), (49, 16), (240, 1), (240, 2), (240, 17), (240, 24))


class TestCommit(unittest.TestCase):
    def test_all_blocks_are_changed_and_no_others(self):
        for blocks, many in SIZES:
            disk = used_disk(blocks, 2)
            changes = changes_of(many, blocks, 7)
            self.assertEqual(len(changes), many)
            want = rest_with(disk, changes)
            self.assertIsNone(commit(disk, changes))
            self.assertEqual(rest(disk), want)

    def test_one_behind_the_other(self):
        for blocks in (29, 30, 52, 240):
            disk = Disk(blocks)
            for seed in range(30):
                changes = changes_of(1 + seed * 5 % min(24, blocks - JOURNAL), blocks, 50 * seed)
                want = rest_with(disk, changes)
                commit(disk, changes)
                self.assertEqual(rest(disk), want)

    def test_greatest_numbers_and_noughts(self):
        disk = used_disk(240, 3)
        changes = {239: [65535] * 16, 28: [0] * 16, 128: [65535, 0] * 8}
        want = rest_with(disk, changes)
        commit(disk, changes)
        self.assertEqual(rest(disk), want)

    def test_the_order_of_the_dict_is_no_matter(self):
        changes = changes_of(24, 60, 3)
        turned = dict(reversed(list(changes.items())))
        one, other = used_disk(60, 1), used_disk(60, 1)
        commit(one, changes)
        commit(other, turned)
        self.assertEqual(rest(one), rest(other))

    def test_what_is_handed_in_is_not_changed_and_may_be_changed(self):
        disk = Disk(60)
        changes = changes_of(24, 60, 3)
        commit(disk, changes)
        self.assertEqual(changes, changes_of(24, 60, 3))
        want = rest(disk)
        for n in list(changes):
            changes[n][0] = 7
            changes[n].append(7)
        changes.clear()
        self.assertEqual(rest(disk), want)
        self.assertEqual(recover(disk), 0)
        self.assertEqual(rest(disk), want)

    def test_one_list_for_several_blocks(self):
        disk = Disk(40)
        same = numbers(1)
        commit(disk, {30: same, 31: same})
        commit(disk, {30: numbers(2)})
        self.assertEqual((disk.read(30), disk.read(31), same), (numbers(2), numbers(1), numbers(1)))

    def test_on_a_fallen_disk(self):
        disk = used_disk(40, 2)
        disk.fall(0)
        outcome(disk.write, 39, numbers(1))
        before = disk.image()
        self.assertEqual(outcome(commit, disk, {30: numbers(9)}), refused("Fallen"))
        self.assertEqual(outcome(recover, disk), refused("Fallen"))
        self.assertEqual(disk.image(), before)

    def test_a_number_that_is_no_block(self):
        disk = used_disk(40, 2)
        before = disk.image()
        for wrong in (40, 41, 10 ** 59, -1):
            self.assertEqual(outcome(commit, disk, {30: numbers(9), wrong: numbers(8)}), refused("NoBlock"))
            self.assertEqual(disk.image(), before)
        self.assertEqual(recover(disk), 0)
        self.assertEqual(disk.image(), before)


class TestRecoverWhereNoneFell(unittest.TestCase):
    def unchanged(self, disk):
        before, done = disk.image(), disk.writes()
        self.assertEqual(recover(disk), 0)
        self.assertEqual(disk.image(), before)
        return disk.writes() - done

    def test_on_a_new_disk(self):
        for blocks in (29, 49, 240):
            self.assertEqual(self.unchanged(Disk(blocks)), 0)

    def test_behind_commits(self):
        for blocks, many in SIZES:
            disk = used_disk(blocks, 2)
            self.unchanged(disk)
            commit(disk, changes_of(many, blocks, 5))
            self.unchanged(disk)
            self.unchanged(disk)

    def test_behind_a_fall_at_another_write(self):
        disk = used_disk(60, 2)
        disk.fall(0)
        self.assertEqual(outcome(disk.write, 50, numbers(1)), refused("Fallen"))
        disk.rise()
        self.unchanged(disk)


class TestForget(unittest.TestCase):
    def test_a_commit_that_fell_does_not_come_back(self):
        start, changes = used_disk(60, 2), changes_of(5, 60, 11)
        for at in range(writes_of(start.image(), commit, changes)):
            disk = disk_of(start.image())
            disk.fall(at)
            self.assertEqual(outcome(commit, disk, changes), refused("Fallen"))
            disk.rise()
            left = rest(disk)
            self.assertIsNone(forget(disk))
            self.assertEqual((recover(disk), rest(disk)), (0, left))
            commit(disk, changes)
            self.assertEqual(rest(disk), rest_with(start, changes))

    def test_whatever_stands_in_its_blocks(self):
        disk = disk_of([[65535] * 16] * 60)
        forget(disk)
        self.assertEqual((recover(disk), rest(disk)), (0, [[65535] * 16] * 32))


class TestFalls(unittest.TestCase):
    def end(self, disk, before, behind, many):
        """Recover on a disk that rose tells what is so: told, and told 0 behind it."""
        told = recover(disk)
        self.assertIn(told, (0, many))
        if told == many:
            self.assertEqual(rest(disk), behind)
        else:
            self.assertIn(rest(disk), (before, behind))
        image = disk.image()
        self.assertEqual(recover(disk), 0)
        self.assertEqual(disk.image(), image)
        return told

    def test_at_each_write_of_a_commit(self):
        for blocks, many in SIZES:
            start, changes = used_disk(blocks, 2), changes_of(many, blocks, 11)
            before, behind = rest(start), rest_with(start, changes)
            tolds = []
            for at in range(writes_of(start.image(), commit, changes)):
                disk = disk_of(start.image())
                disk.fall(at)
                self.assertEqual(outcome(commit, disk, changes), refused("Fallen"))
                fallen = disk.image()
                disk.rise()
                told = self.end(disk, before, behind, many)
                # Nothing but the blocks counts: a disk made anew of them tells the same.
                anew = disk_of(fallen)
                self.assertEqual(self.end(anew, before, behind, many), told)
                self.assertEqual(anew.image(), disk.image())
                # Where it was at neither end, recover told what it did.
                if fallen[JOURNAL:] not in (before, behind):
                    self.assertEqual(told, many)
                elif fallen[JOURNAL:] == before:
                    self.assertEqual(rest(disk), behind if told else before)
                tolds.append(told)
            self.assertEqual(tolds[0], 0)
            self.assertIn(many, tolds)

    def test_with_more_writes_than_a_commit_has_it_is_done(self):
        start, changes = used_disk(60, 2), changes_of(5, 60, 11)
        disk = disk_of(start.image())
        disk.fall(writes_of(start.image(), commit, changes))
        commit(disk, changes)
        self.assertEqual(rest(disk), rest_with(start, changes))

    def test_recover_falls_at_each_of_its_writes(self):
        for blocks, many in ((29, 1), (30, 2), (52, 24), (240, 5)):
            start, changes = used_disk(blocks, 2), changes_of(many, blocks, 13)
            before, behind = rest(start), rest_with(start, changes)
            for at in range(writes_of(start.image(), commit, changes)):
                disk = disk_of(start.image())
                disk.fall(at)
                self.assertEqual(outcome(commit, disk, changes), refused("Fallen"))
                fallen = disk.image()
                for second in range(writes_of(fallen, recover)):
                    again = disk_of(fallen)
                    again.fall(second)
                    self.assertEqual(outcome(recover, again), refused("Fallen"))
                    again.rise()
                    self.end(again, before, behind, many)
                    self.assertEqual(rest(again), behind)

    def test_recover_falls_many_times(self):
        start, changes = used_disk(70, 2), changes_of(24, 70, 17)
        before, behind = rest(start), rest_with(start, changes)
        writes = writes_of(start.image(), commit, changes)
        for at in range(writes):
            disk = disk_of(start.image())
            disk.fall(at)
            self.assertEqual(outcome(commit, disk, changes), refused("Fallen"))
            for second in (0, 3, 1, 7, 7, 0, 20, 2):
                disk.rise()
                if writes_of(disk.image(), recover) > second:
                    disk.fall(second)
                    self.assertEqual(outcome(recover, disk), refused("Fallen"))
            disk.rise()
            self.end(disk, before, behind, 24)

    def test_further_commits_behind_falls(self):
        for seed in range(20):
            draws = Draws(seed)
            disk = Disk(80)
            for turn in range(25):
                many = draws.one_of((1, 2, 3, 10, 24))
                changes = changes_of(many, 80, draws.below(10000))
                before, behind = rest(disk), rest_with(disk, changes)
                disk.fall(draws.below(60))
                told = outcome(commit, disk, changes)
                disk.rise()
                if told == ("told", None):
                    self.assertEqual((recover(disk), rest(disk)), (0, behind))
                else:
                    self.assertEqual(told, refused("Fallen"))
                    self.end(disk, before, behind, many)


if __name__ == "__main__":
    unittest.main()
