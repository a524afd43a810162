"""The deeds that rooms of both makes have: what they tell and refuse, tried on each make."""

import unittest

from helper import LONG, outcome, refused
from ownroom.plainrooms import PlainRooms
from ownroom.rooms import Rooms

TASKS = (1, 2, 3, -4, LONG, -LONG)
NOUGHTS = [0] * 8


def cells_held(rooms):
    """The cells of every page, as peek tells them."""
    return {(task, page): outcome(rooms.peek, task, 8 * page, 8) for task in TASKS for page in range(64)}


def places_held(rooms):
    if isinstance(rooms, PlainRooms):
        return rooms.held()
    places = {(task, page): outcome(rooms.place, task, page) for task in TASKS for page in range(64)}
    return places, rooms.counts(), rooms.held()


class Deeds:
    """Tests for a make of rooms; `rooms(total)` makes some that hold so many pages at most."""

    def refuse(self, rooms, name, *call):
        """A call is refused, and all is as it was."""
        cells = cells_held(rooms)
        places = places_held(rooms)
        self.assertEqual(outcome(getattr(rooms, call[0]), *call[1:]), refused(name), call)
        self.assertEqual(places_held(rooms), places, call)
        self.assertEqual(cells_held(rooms), cells, call)

    def filled(self, total=12):
        """Task 1 has the pages 2, 3 and 5, with cells, -4 a copy of them, 2 the page 0, and 3 no page."""
        rooms = self.rooms(total)
        for task in (1, 2, 3):
            rooms.begin(task)
        rooms.map(1, 2, 2)
        rooms.map(1, 5, 1)
        rooms.poke(1, 16, list(range(1, 17)))
        rooms.copy(1, -4)
        rooms.poke(1, 40, [9, 9])
        rooms.map(2, 0, 1)
        return rooms


class OrdinaryDeeds(Deeds):
    def test_no_rooms_at_first(self):
        rooms = self.rooms(5)
        self.assertEqual(rooms.held(), 0)
        for task in TASKS:
            self.refuse(rooms, "NoTask", "peek", task, 0, 0)

    def test_deeds_tell_nothing(self):
        rooms = self.rooms(5)
        told = [rooms.begin(1), rooms.map(1, 0, 2), rooms.poke(1, 3, [1]), rooms.poke(1, 3, []), rooms.copy(1, 2),
                rooms.drop(1, 0, 1), rooms.close(1)]
        self.assertEqual(told, [None] * 7)

    def test_a_mapped_page_has_noughts(self):
        rooms = self.rooms(5)
        rooms.begin(1)
        rooms.map(1, 7, 2)
        self.assertEqual(rooms.peek(1, 56, 16), [0] * 16)

    def test_what_is_poked_is_peeked(self):
        rooms = self.rooms(5)
        rooms.begin(1)
        rooms.map(1, 1, 2)
        rooms.poke(1, 10, [1, 255, 0, 7])
        self.assertEqual(rooms.peek(1, 8, 8), [0, 0, 1, 255, 0, 7, 0, 0])
        self.assertEqual(rooms.peek(1, 11, 3), [255, 0, 7])
        rooms.poke(1, 11, [4])
        self.assertEqual(rooms.peek(1, 8, 16), [0, 0, 1, 4, 0, 7, 0, 0] + NOUGHTS)

    def test_cells_across_pages(self):
        rooms = self.rooms(5)
        rooms.begin(1)
        rooms.map(1, 1, 3)
        rooms.poke(1, 14, [1, 2, 3])
        self.assertEqual(rooms.peek(1, 14, 3), [1, 2, 3])
        self.assertEqual(rooms.peek(1, 15, 1), [2])
        self.assertEqual(rooms.peek(1, 16, 1), [3])
        rooms.poke(1, 15, [7] * 10)
        self.assertEqual(rooms.peek(1, 8, 24), [0] * 6 + [1] + [7] * 10 + [0] * 7)

    def test_each_run_of_cells(self):
        for start in range(8):
            for many in range(1, 65):
                rooms = self.rooms(9)
                rooms.begin(1)
                rooms.map(1, 20, 9)
                cells = [(k * 37 + many) % 256 for k in range(many)]
                rooms.poke(1, 160 + start, cells)
                self.assertEqual(rooms.peek(1, 160 + start, many), cells)
                self.assertEqual(rooms.peek(1, 160, 72), [0] * start + cells + [0] * (72 - start - many))

    def test_drop_takes_the_pages_told_alone(self):
        rooms = self.filled()
        rooms.drop(1, 3, 1)
        self.assertEqual(rooms.held(), 6)
        self.assertEqual(rooms.peek(1, 16, 8), [1, 2, 3, 4, 5, 6, 7, 8])
        self.assertEqual(rooms.peek(1, 40, 2), [9, 9])
        self.refuse(rooms, "NoPage", "peek", 1, 24, 1)
        self.assertEqual(rooms.peek(-4, 24, 8), [9, 10, 11, 12, 13, 14, 15, 16])

    def test_a_copy_has_the_pages_and_cells_of_now(self):
        rooms = self.filled()
        self.assertEqual(rooms.peek(-4, 16, 16), list(range(1, 17)))
        self.assertEqual(rooms.peek(-4, 40, 8), NOUGHTS)
        self.refuse(rooms, "NoPage", "peek", -4, 32, 1)
        rooms.copy(3, LONG)
        self.refuse(rooms, "NoPage", "peek", LONG, 16, 1)

    def test_a_copy_is_changed_by_its_own_deeds_alone(self):
        rooms = self.filled()
        rooms.poke(1, 16, [50])
        self.assertEqual((rooms.peek(1, 16, 2), rooms.peek(-4, 16, 2)), ([50, 2], [1, 2]))
        rooms.poke(-4, 17, [60])
        self.assertEqual((rooms.peek(1, 16, 2), rooms.peek(-4, 16, 2)), ([50, 2], [1, 60]))
        rooms.map(-4, 0, 1)
        self.refuse(rooms, "NoPage", "peek", 1, 0, 1)
        rooms.close(1)
        self.assertEqual(rooms.peek(-4, 16, 16), [1, 60] + list(range(3, 17)))

    def test_copies_of_copies(self):
        rooms = self.rooms(10)
        rooms.begin(0)
        rooms.map(0, 0, 2)
        rooms.poke(0, 6, [1, 2, 3, 4])
        for task in range(4):
            rooms.copy(task, task + 1)
            rooms.poke(task + 1, 7, [20 + task])
        self.assertEqual([rooms.peek(task, 6, 4) for task in range(5)],
                         [[1, 2, 3, 4]] + [[1, 20 + task, 3, 4] for task in range(4)])
        for task in (2, 0, 4):
            rooms.close(task)
        self.assertEqual([rooms.peek(task, 6, 4) for task in (1, 3)], [[1, 20, 3, 4], [1, 22, 3, 4]])

    def test_held_counts_the_pages_of_all_rooms(self):
        rooms = self.filled()
        self.assertEqual(rooms.held(), 7)
        rooms.drop(1, 2, 2)
        self.assertEqual(rooms.held(), 5)
        rooms.close(-4)
        self.assertEqual(rooms.held(), 2)
        rooms.close(3)
        self.assertEqual(rooms.held(), 2)
        rooms.close(1)
        rooms.close(2)
        self.assertEqual(rooms.held(), 0)

    def test_tasks_numbers_of_either_sign_and_sixty_figures(self):
        rooms = self.rooms(20)
        tasks = (0, -1, 1, LONG, -LONG, LONG - 1)
        for k, task in enumerate(tasks):
            rooms.begin(task)
            rooms.map(task, 0, 1)
            rooms.poke(task, 0, [k, k])
        self.assertEqual([rooms.peek(task, 0, 3) for task in tasks], [[k, k, 0] for k in range(6)])
        rooms.copy(-LONG, LONG - 2)
        self.assertEqual(rooms.peek(LONG - 2, 1, 2), [4, 0])


class EdgesOfDeeds(Deeds):
    def test_the_first_and_the_last_page(self):
        rooms = self.rooms(5)
        rooms.begin(1)
        rooms.map(1, 0, 1)
        rooms.map(1, 63, 1)
        rooms.poke(1, 0, [1])
        rooms.poke(1, 511, [2])
        self.assertEqual(rooms.peek(1, 0, 8), [1] + [0] * 7)
        self.assertEqual(rooms.peek(1, 504, 8), [0] * 7 + [2])
        rooms.drop(1, 63, 1)
        rooms.drop(1, 0, 1)
        self.assertEqual(rooms.held(), 0)

    def test_all_pages_of_a_room_at_once(self):
        rooms = self.rooms(70)
        rooms.begin(1)
        rooms.map(1, 0, 64)
        self.assertEqual(rooms.held(), 64)
        for address in range(0, 512, 64):
            rooms.poke(1, address, [(address + k) * 7 % 256 for k in range(64)])
        self.assertEqual(rooms.peek(1, 0, 512), [k * 7 % 256 for k in range(512)])
        rooms.drop(1, 0, 64)
        self.assertEqual(rooms.held(), 0)
        self.refuse(rooms, "NoPage", "peek", 1, 0, 1)

    def test_just_what_is_left(self):
        rooms = self.rooms(6)
        rooms.begin(1)
        rooms.begin(2)
        rooms.map(1, 0, 2)
        rooms.copy(1, 3)
        rooms.map(2, 0, 2)
        self.assertEqual(rooms.held(), 6)
        self.refuse(rooms, "NoRoom", "map", 2, 5, 1)
        self.refuse(rooms, "NoRoom", "copy", 1, -4)
        rooms.drop(1, 0, 2)
        rooms.copy(3, -4)
        self.assertEqual(rooms.held(), 6)

    def test_a_room_without_pages_is_copied_where_nothing_is_left(self):
        rooms = self.rooms(2)
        rooms.begin(1)
        rooms.begin(2)
        rooms.map(1, 0, 2)
        rooms.copy(2, 3)
        self.assertEqual(rooms.held(), 2)

    def test_close_and_begin_anew(self):
        rooms = self.filled()
        rooms.close(1)
        self.refuse(rooms, "NoTask", "peek", 1, 16, 0)
        rooms.begin(1)
        self.refuse(rooms, "NoPage", "peek", 1, 16, 1)
        rooms.map(1, 2, 1)
        self.assertEqual(rooms.peek(1, 16, 8), NOUGHTS)
        rooms.close(1)
        rooms.copy(-4, 1)
        self.assertEqual(rooms.peek(1, 16, 8), [1, 2, 3, 4, 5, 6, 7, 8])

    def test_mapped_anew_behind_a_drop(self):
        rooms = self.filled()
        rooms.drop(1, 2, 2)
        rooms.map(1, 1, 3)
        self.assertEqual(rooms.peek(1, 8, 24), [0] * 24)
        rooms.poke(1, 16, [5])
        self.assertEqual((rooms.peek(1, 16, 2), rooms.peek(-4, 16, 2)), ([5, 0], [1, 2]))

    def test_no_cells_at_any_address(self):
        rooms = self.filled()
        before = (places_held(rooms), rooms.held())
        for address in (0, 16, 100, 511, 512, -1, LONG, -LONG):
            for task in (1, 2, 3):
                self.assertEqual(rooms.peek(task, address, 0), [])
                self.assertIsNone(rooms.poke(task, address, []))
        self.assertEqual((places_held(rooms), rooms.held()), before)

    def test_lists_may_be_changed(self):
        rooms = self.filled()
        handed = [70, 71, 72, 73, 74, 75, 76, 77]
        rooms.poke(1, 16, handed)
        handed[0] = 1
        handed.append(1)
        told = rooms.peek(1, 16, 8)
        self.assertEqual(told, [70, 71, 72, 73, 74, 75, 76, 77])
        told[0] = 1
        self.assertEqual(rooms.peek(1, 16, 8), [70, 71, 72, 73, 74, 75, 76, 77])
        rooms.poke(1, 24, told)
        rooms.poke(1, 24, [3])
        self.assertEqual(told, [1, 71, 72, 73, 74, 75, 76, 77])
        blank = rooms.peek(2, 0, 8)
        blank[0] = 5
        self.assertEqual(rooms.peek(2, 0, 8), NOUGHTS)
        rooms.peek(1, 16, 0).append(1)
        self.assertEqual(rooms.peek(1, 16, 0), [])

    def test_two_objects_have_nothing_in_common(self):
        one, other = self.filled(), self.rooms(12)
        self.assertEqual(other.held(), 0)
        self.refuse(other, "NoTask", "close", 1)
        other.begin(1)
        other.map(1, 2, 1)
        self.assertEqual(other.peek(1, 16, 8), NOUGHTS)
        self.assertEqual(one.held(), 7)


class RefusedDeeds(Deeds):
    def test_no_task_ahead_of_all_else(self):
        rooms = self.filled(7)
        for task in (0, 4, -1, LONG, -LONG):
            for call in (("close", task), ("map", task, 9, 1), ("map", task, -1, 0), ("map", task, 0, 64),
                         ("drop", task, 0, 1), ("drop", task, 64, -1), ("peek", task, 0, 1), ("peek", task, -1, -1),
                         ("peek", task, 0, 0), ("poke", task, 0, [1]), ("poke", task, LONG, [1]), ("poke", task, 0, []),
                         ("copy", task, 9), ("copy", task, 1), ("copy", task, task)):
                self.refuse(rooms, "NoTask", *call)

    def test_begin_of_a_task_that_has_a_room(self):
        rooms = self.filled()
        for task in (1, 2, 3, -4):
            self.refuse(rooms, "Taken", "begin", task)

    def test_map_no_page(self):
        rooms = self.filled(7)
        for page, many in ((0, 0), (9, -1), (9, -LONG), (-1, 1), (-1, 2), (64, 1), (63, 2), (0, 65), (10, 55),
                           (LONG, 1), (-LONG, 1), (0, LONG), (-LONG, LONG), (-LONG, LONG + 10), (2, 0), (2, 63),
                           (-1, 4), (LONG, LONG), (LONG, -LONG)):
            self.refuse(rooms, "NoPage", "map", 1, page, many)

    def test_map_taken(self):
        rooms = self.filled(7)
        for page, many in ((2, 1), (3, 1), (5, 1), (1, 2), (4, 2), (0, 64), (2, 4), (0, 3)):
            self.refuse(rooms, "Taken", "map", 1, page, many)
        self.refuse(rooms, "Taken", "map", 2, 0, 64)

    def test_map_no_room(self):
        rooms = self.filled(9)
        for task, page, many in ((1, 6, 3), (2, 1, 63), (3, 0, 3), (3, 0, 64), (-4, 61, 3)):
            self.refuse(rooms, "NoRoom", "map", task, page, many)
        rooms.map(3, 0, 2)
        self.refuse(rooms, "NoRoom", "map", 3, 2, 1)

    def test_drop_no_page(self):
        rooms = self.filled()
        for page, many in ((2, 0), (2, -1), (2, -LONG), (1, 1), (1, 2), (2, 3), (2, 4), (3, 2), (5, 2), (-1, 1),
                           (64, 1), (0, 64), (LONG, 1), (-LONG, 1), (2, LONG), (-LONG, LONG), (LONG, -LONG)):
            self.refuse(rooms, "NoPage", "drop", 1, page, many)
        self.refuse(rooms, "NoPage", "drop", 3, 0, 1)

    def test_peek_no_page(self):
        rooms = self.filled()
        for address, many in ((16, -1), (16, -LONG), (23, -1), (-1, -1), (15, 1), (15, 2), (16, 17), (31, 2), (32, 1),
                              (39, 2), (47, 2), (16, 32), (-1, 1), (-1, 18), (-8, 9), (511, 1), (512, 1), (512, -1),
                              (LONG, 1), (-LONG, 1), (16, LONG), (-LONG, LONG), (-LONG, LONG + 17), (LONG, -1)):
            self.refuse(rooms, "NoPage", "peek", 1, address, many)
        self.refuse(rooms, "NoPage", "peek", 3, 0, 1)

    def test_peek_and_poke_beyond_the_last_address(self):
        rooms = self.rooms(5)
        rooms.begin(1)
        rooms.map(1, 62, 2)
        rooms.map(1, 0, 1)
        rooms.poke(1, 508, [1, 2, 3, 4])
        for address, many in ((511, 2), (505, 8), (512, 1), (-1, 2), (-1, 1), (-8, 8)):
            self.refuse(rooms, "NoPage", "peek", 1, address, many)
            self.refuse(rooms, "NoPage", "poke", 1, address, [7] * many)

    def test_poke_no_page(self):
        rooms = self.filled()
        for address, many in ((15, 1), (15, 2), (16, 17), (31, 2), (32, 1), (39, 2), (47, 2), (16, 32), (-1, 1),
                              (-1, 18), (-8, 9), (511, 1), (512, 1), (LONG, 1), (-LONG, 64)):
            self.refuse(rooms, "NoPage", "poke", 1, address, [77] * many)
        self.refuse(rooms, "NoPage", "poke", 3, 0, [1])

    def test_copy_taken(self):
        rooms = self.filled(7)
        for task, other in ((1, 2), (1, 3), (1, 1), (3, 3), (3, 1), (-4, 1), (-4, -4)):
            self.refuse(rooms, "Taken", "copy", task, other)

    def test_copy_no_room(self):
        rooms = self.filled(9)
        for task in (1, -4):
            self.refuse(rooms, "NoRoom", "copy", task, LONG)
        rooms.drop(1, 2, 1)
        rooms.copy(1, LONG)
        self.assertEqual(rooms.held(), 8)
        self.refuse(rooms, "NoRoom", "copy", 1, -LONG)


class TestRoomsOrdinary(OrdinaryDeeds, unittest.TestCase):
    def rooms(self, total):
        return Rooms(2, total - 2)


class TestRoomsEdges(EdgesOfDeeds, unittest.TestCase):
    def rooms(self, total):
        return Rooms(max(2, total - 60), total - max(2, total - 60))


class TestRoomsRefused(RefusedDeeds, unittest.TestCase):
    def rooms(self, total):
        return Rooms(3, total - 3)


class TestFramesAloneOrdinary(OrdinaryDeeds, unittest.TestCase):
    def rooms(self, total):
        return Rooms(total, 0)


class TestPlainOrdinary(OrdinaryDeeds, unittest.TestCase):
    def rooms(self, total):
        return PlainRooms(total)


class TestPlainEdges(EdgesOfDeeds, unittest.TestCase):
    def rooms(self, total):
        return PlainRooms(total)


class TestPlainRefused(RefusedDeeds, unittest.TestCase):
    def rooms(self, total):
        return PlainRooms(total)


class TestPlainBounds(unittest.TestCase):
    def test_no_pages_at_all(self):
        rooms = PlainRooms(0)
        rooms.begin(1)
        self.assertEqual(outcome(rooms.map, 1, 0, 1), refused("NoRoom"))
        self.assertEqual(outcome(rooms.map, 1, 0, 65), refused("NoPage"))
        rooms.copy(1, 2)
        self.assertEqual((rooms.held(), rooms.peek(2, 0, 0)), (0, []))

    def test_a_thousand_pages(self):
        rooms = PlainRooms(1000)
        rooms.begin(0)
        rooms.map(0, 0, 64)
        rooms.poke(0, 0, list(range(64)))
        for task in range(1, 15):
            rooms.copy(task - 1, task)
            rooms.poke(task, 0, [100 + task])
        self.assertEqual(rooms.held(), 960)
        self.assertEqual(outcome(rooms.copy, 0, 15), refused("NoRoom"))
        rooms.begin(15)
        self.assertEqual(outcome(rooms.map, 15, 0, 41), refused("NoRoom"))
        rooms.map(15, 0, 40)
        self.assertEqual(rooms.held(), 1000)
        self.assertEqual([rooms.peek(task, 0, 3) for task in range(15)],
                         [[0, 1, 2]] + [[100 + task, 1, 2] for task in range(1, 15)])


if __name__ == "__main__":
    unittest.main()
