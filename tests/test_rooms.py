"""Where the pages of rooms lie: place and counts, and cells where all frames and slots are held."""

import unittest

from helper import LONG, outcome, refused
from ownroom.rooms import Rooms

BLANK = ("blank",)


def one_room(frames, slots, pages):
    rooms = Rooms(frames, slots)
    rooms.begin(1)
    rooms.map(1, 0, pages)
    return rooms


def poked_room(frames, slots, pages):
    rooms = one_room(frames, slots, pages)
    for page in range(pages):
        rooms.poke(1, 8 * page, [page + 1])
    return rooms


def places(rooms, task, pages):
    return [rooms.place(task, page) for page in range(pages)]


def kinds(rooms, task, pages):
    return [place[0] for place in places(rooms, task, pages)]


class TestBlank(unittest.TestCase):
    def test_a_page_that_was_mapped_and_peeked_is_blank(self):
        rooms = one_room(2, 2, 3)
        self.assertEqual(places(rooms, 1, 3), [BLANK] * 3)
        rooms.peek(1, 0, 24)
        self.assertEqual(places(rooms, 1, 3), [BLANK] * 3)
        self.assertEqual(rooms.counts(), ([0, 0], [0, 0]))

    def test_a_page_poked_with_noughts_is_not_blank(self):
        rooms = one_room(2, 2, 3)
        rooms.poke(1, 10, [0])
        self.assertEqual(kinds(rooms, 1, 3), ["blank", "frame", "blank"])
        self.assertEqual(sorted(rooms.counts()[0]), [0, 1])
        self.assertEqual(rooms.peek(1, 0, 24), [0] * 24)

    def test_a_poke_of_no_cells_and_a_refused_one_leave_a_page_blank(self):
        rooms = one_room(2, 2, 3)
        rooms.poke(1, 10, [])
        self.assertEqual(outcome(rooms.poke, 1, 23, [1, 1]), refused("NoPage"))
        self.assertEqual(places(rooms, 1, 3), [BLANK] * 3)

    def test_only_the_pages_with_a_cell_are_poked(self):
        rooms = one_room(4, 0, 4)
        rooms.poke(1, 15, [1, 2])
        self.assertEqual(kinds(rooms, 1, 4), ["blank", "frame", "frame", "blank"])
        rooms.poke(1, 0, [1] * 8)
        self.assertEqual(kinds(rooms, 1, 4), ["frame", "frame", "frame", "blank"])

    def test_copied_ahead_of_the_first_poke(self):
        rooms = one_room(2, 2, 1)
        rooms.copy(1, 2)
        rooms.poke(1, 0, [5])
        self.assertEqual((rooms.place(1, 0)[0], rooms.place(2, 0)), ("frame", BLANK))
        rooms.copy(2, 3)
        self.assertEqual(rooms.place(3, 0), BLANK)
        rooms.poke(2, 0, [0])
        self.assertEqual((rooms.place(2, 0)[0], rooms.place(3, 0)), ("frame", BLANK))
        self.assertNotEqual(rooms.place(1, 0), rooms.place(2, 0))

    def test_mapped_anew(self):
        rooms = poked_room(2, 2, 3)
        rooms.drop(1, 0, 3)
        rooms.map(1, 0, 3)
        self.assertEqual(places(rooms, 1, 3), [BLANK] * 3)
        self.assertEqual(rooms.counts(), ([0, 0], [0, 0]))


class TestNoPlace(unittest.TestCase):
    def test_none_where_no_page_is_mapped(self):
        rooms = one_room(2, 2, 2)
        for page in (2, 63, 64, -1, -8, LONG, -LONG):
            self.assertIsNone(rooms.place(1, page))
        rooms.poke(1, 0, [1])
        rooms.drop(1, 0, 1)
        self.assertIsNone(rooms.place(1, 0))

    def test_no_task(self):
        rooms = one_room(2, 2, 2)
        for task in (0, 2, -1, LONG, -LONG):
            for page in (0, 2, 64, -1, LONG):
                self.assertEqual(outcome(rooms.place, task, page), refused("NoTask"))
        rooms.close(1)
        self.assertEqual(outcome(rooms.place, 1, 0), refused("NoTask"))


class TestShared(unittest.TestCase):
    def shared(self):
        rooms = one_room(4, 4, 1)
        rooms.poke(1, 0, [5])
        rooms.copy(1, 2)
        rooms.copy(2, 3)
        return rooms

    def test_a_copy_lies_where_the_page_lies(self):
        rooms = self.shared()
        self.assertEqual(rooms.place(1, 0), rooms.place(2, 0))
        self.assertEqual(rooms.place(1, 0), rooms.place(3, 0))
        self.assertEqual(sorted(rooms.counts()[0]), [0, 0, 0, 3])

    def test_a_poke_on_either_side_parts_them(self):
        for poked, left in ((1, (2, 3)), (2, (1, 3)), (3, (1, 2))):
            rooms = self.shared()
            before = rooms.place(left[0], 0)
            # The same cell once more is a poke, too.
            rooms.poke(poked, 0, [5])
            self.assertNotEqual(rooms.place(poked, 0), rooms.place(left[0], 0))
            self.assertEqual([rooms.place(task, 0) for task in left], [before, before])
            self.assertEqual(sorted(rooms.counts()[0]), [0, 0, 1, 2])

    def test_each_poked_lies_alone(self):
        rooms = self.shared()
        for task in (1, 2, 3):
            rooms.poke(task, 3, [task])
        self.assertEqual(len({rooms.place(task, 0) for task in (1, 2, 3)}), 3)
        self.assertEqual(sorted(rooms.counts()[0]), [0, 1, 1, 1])
        self.assertEqual([rooms.peek(task, 0, 4) for task in (1, 2, 3)], [[5, 0, 0, task] for task in (1, 2, 3)])

    def test_a_peek_parts_nothing(self):
        rooms = self.shared()
        for task in (1, 2, 3):
            rooms.peek(task, 0, 8)
        self.assertEqual(sorted(rooms.counts()[0]), [0, 0, 0, 3])

    def test_dropped_or_closed_on_one_side(self):
        rooms = self.shared()
        place = rooms.place(1, 0)
        rooms.drop(1, 0, 1)
        self.assertEqual((rooms.place(1, 0), rooms.place(2, 0), rooms.place(3, 0)), (None, place, place))
        self.assertEqual(sorted(rooms.counts()[0]), [0, 0, 0, 2])
        rooms.close(3)
        self.assertEqual(sorted(rooms.counts()[0]), [0, 0, 0, 1])
        self.assertEqual(rooms.peek(2, 0, 8), [5] + [0] * 7)
        rooms.drop(2, 0, 1)
        self.assertEqual(rooms.counts(), ([0] * 4, [0] * 4))

    def test_copied_behind_a_poke_of_a_copy(self):
        rooms = self.shared()
        rooms.poke(2, 0, [6])
        rooms.copy(2, 4)
        self.assertEqual(rooms.place(4, 0), rooms.place(2, 0))
        self.assertNotEqual(rooms.place(4, 0), rooms.place(1, 0))
        self.assertEqual(rooms.place(1, 0), rooms.place(3, 0))

    def test_pages_of_one_poke_lie_apart(self):
        rooms = one_room(3, 0, 3)
        rooms.poke(1, 7, [1] * 10)
        self.assertEqual(len(set(places(rooms, 1, 3))), 3)

    def test_pages_go_out_together(self):
        rooms = one_room(2, 7, 3)
        rooms.poke(1, 0, [1])
        rooms.copy(1, 2)
        rooms.poke(1, 8, [2])
        rooms.poke(1, 16, [3])
        self.assertEqual(rooms.place(1, 0)[0], "slot")
        self.assertEqual(rooms.place(1, 0), rooms.place(2, 0))
        self.assertEqual((sorted(rooms.counts()[0]), sorted(rooms.counts()[1])), ([1, 1], [0] * 6 + [2]))
        rooms.peek(2, 0, 1)
        self.assertEqual(rooms.place(1, 0)[0], "frame")
        self.assertEqual(rooms.place(1, 0), rooms.place(2, 0))


class TestFramesAndSlots(unittest.TestCase):
    def test_frames_are_taken_ahead_of_slots(self):
        rooms = poked_room(3, 5, 3)
        self.assertEqual(kinds(rooms, 1, 3), ["frame"] * 3)
        self.assertEqual(rooms.counts(), ([1, 1, 1], [0] * 5))

    def test_places_are_numbered(self):
        rooms = poked_room(3, 5, 8)
        told = places(rooms, 1, 8)
        self.assertEqual(sorted(told), [("frame", n) for n in range(3)] + [("slot", n) for n in range(5)])
        self.assertEqual(rooms.counts(), ([1] * 3, [1] * 5))

    def test_the_page_of_the_last_cell_is_in_a_frame(self):
        rooms = poked_room(2, 20, 20)
        for page in (0, 19, 7, 7, 3, 12, 0, 1, 0):
            rooms.peek(1, 8 * page + 7, 1)
            self.assertEqual(rooms.place(1, page)[0], "frame")
        for page in (2, 18, 6, 6, 4, 11, 2, 3, 2):
            rooms.poke(1, 8 * page, [page])
            self.assertEqual(rooms.place(1, page)[0], "frame")
        rooms.peek(1, 0, 64)
        self.assertEqual(rooms.place(1, 7)[0], "frame")
        rooms.poke(1, 75, [1] * 64)
        self.assertEqual(rooms.place(1, 17)[0], "frame")

    def test_it_stays_there_behind_other_deeds(self):
        rooms = poked_room(2, 20, 10)
        rooms.peek(1, 8, 1)
        rooms.copy(1, 2)
        rooms.begin(3)
        rooms.map(3, 0, 2)
        rooms.drop(1, 2, 8)
        rooms.peek(1, 16, 0)
        rooms.poke(3, 0, [])
        self.assertEqual(outcome(rooms.peek, 1, 16, 1), refused("NoPage"))
        self.assertEqual(outcome(rooms.peek, 1, 0, 17), refused("NoPage"))
        self.assertEqual(rooms.place(1, 1)[0], "frame")
        rooms.close(2)
        self.assertEqual(rooms.place(1, 1)[0], "frame")

    def test_nothing_goes_out_where_a_frame_is_left_free(self):
        rooms = poked_room(4, 10, 8)
        inside = [page for page in range(8) if rooms.place(1, page)[0] == "frame"]
        rooms.drop(1, inside[0], 1)
        self.assertIn(0, rooms.counts()[0])
        self.assertEqual([rooms.place(1, page)[0] for page in inside[1:]], ["frame"] * 3)
        out = [page for page in range(8) if rooms.place(1, page) and rooms.place(1, page)[0] == "slot"]
        rooms.peek(1, 8 * out[0], 1)
        self.assertEqual([rooms.place(1, page)[0] for page in inside[1:] + out[:1]], ["frame"] * 4)

    def test_two_frames_and_many_slots(self):
        rooms = poked_room(2, 60, 62)
        self.assertEqual(rooms.counts(), ([1, 1], [1] * 60))
        for page in range(62):
            self.assertEqual(rooms.peek(1, 8 * page, 8), [page + 1] + [0] * 7)
        rooms.poke(1, 8, list(range(64)))
        self.assertEqual(rooms.peek(1, 0, 80), [1] + [0] * 7 + list(range(64)) + [10] + [0] * 7)

    def test_no_slots_at_all(self):
        rooms = poked_room(5, 0, 5)
        self.assertEqual(sorted(places(rooms, 1, 5)), [("frame", n) for n in range(5)])
        rooms.peek(1, 0, 40)
        rooms.poke(1, 0, [1] * 40)
        self.assertEqual(rooms.counts(), ([1] * 5, []))
        self.assertEqual(outcome(rooms.map, 1, 9, 1), refused("NoRoom"))

    def test_where_all_is_held_each_page_can_be_poked(self):
        for frames, slots in ((2, 6), (3, 5), (8, 0), (7, 1)):
            rooms = Rooms(frames, slots)
            rooms.begin(1)
            rooms.map(1, 4, 2)
            rooms.poke(1, 32, list(range(16)))
            for task in (2, 3, 4):
                rooms.copy(task - 1, task)
            self.assertEqual(rooms.held(), 8)
            want = {task: list(range(16)) for task in (1, 2, 3, 4)}
            for turn in range(48):
                task = (4, 1, 3, 2)[turn % 4]
                rooms.poke(task, 32 + turn % 15, [100 + turn, turn])
                want[task][turn % 15:turn % 15 + 2] = [100 + turn, turn]
                for other in want:
                    self.assertEqual(rooms.peek(other, 32, 16), want[other])
            self.assertEqual(rooms.counts(), ([1] * frames, [1] * slots))


class TestCounts(unittest.TestCase):
    def test_all_nought_at_first_and_behind_the_close_of_all(self):
        rooms = Rooms(3, 4)
        self.assertEqual(rooms.counts(), ([0] * 3, [0] * 4))
        rooms.begin(1)
        rooms.map(1, 10, 3)
        rooms.poke(1, 80, [1] * 24)
        rooms.copy(1, 2)
        rooms.poke(2, 80, [1])
        self.assertEqual(sorted(rooms.counts()[0] + rooms.counts()[1]), [0, 0, 0, 1, 1, 2, 2])
        rooms.close(1)
        self.assertEqual(sorted(rooms.counts()[0] + rooms.counts()[1]), [0, 0, 0, 0, 1, 1, 1])
        rooms.close(2)
        self.assertEqual(rooms.counts(), ([0] * 3, [0] * 4))

    def test_the_lists_may_be_changed(self):
        rooms = poked_room(2, 2, 3)
        told = rooms.counts()
        self.assertIsInstance(told, tuple)
        told[0][0] = 9
        told[1].append(9)
        self.assertEqual((rooms.counts()[0], sorted(rooms.counts()[1])), ([1, 1], [0, 1]))
        empty = Rooms(2, 2).counts()
        self.assertIsNot(empty[0], empty[1])
        before = rooms.counts()
        rooms.close(1)
        self.assertEqual((before[0], sorted(before[1])), ([1, 1], [0, 1]))


if __name__ == "__main__":
    unittest.main()
