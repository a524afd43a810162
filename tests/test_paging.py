import unittest

from helper import LONG, Draws
from ownroom.errors import NoOwner, NoRoom
from ownroom.paging import Paging


def sheet_cells(n):
    return [n] * 8


def filled(frames, slots, sheets):
    paging = Paging(frames, slots)
    return paging, [paging.new_sheet(sheet_cells(n)) for n in range(sheets)]


def kinds(paging, sheets):
    return [paging.place(sheet)[0] for sheet in sheets]


class TestFramesAlone(unittest.TestCase):
    def test_a_new_sheet_lies_in_a_frame_with_one_owner(self):
        paging, sheets = filled(3, 0, 1)
        self.assertEqual(paging.place(sheets[0]), ("frame", 0))
        self.assertEqual((paging.cells(sheets[0]), paging.count(sheets[0])), (sheet_cells(0), 1))
        self.assertEqual(paging.counts(), ([1, 0, 0], []))

    def test_sheets_lie_apart(self):
        paging, sheets = filled(3, 0, 3)
        self.assertEqual([paging.place(sheet) for sheet in sheets], [("frame", 0), ("frame", 1), ("frame", 2)])
        self.assertEqual([paging.cells(sheet) for sheet in sheets], [sheet_cells(n) for n in range(3)])

    def test_share_and_leave_count_owners(self):
        paging, sheets = filled(2, 0, 2)
        self.assertIsNone(paging.share(sheets[1]))
        self.assertEqual(paging.counts(), ([1, 2], []))
        self.assertIsNone(paging.leave(sheets[1]))
        self.assertEqual(paging.counts(), ([1, 1], []))
        paging.leave(sheets[1])
        self.assertEqual(paging.counts(), ([1, 0], []))
        with self.assertRaises(NoOwner):
            paging.place(sheets[1])

    def test_a_sheet_of_one_owner_is_changed_where_it_lies(self):
        paging, sheets = filled(2, 0, 2)
        self.assertEqual(paging.change(sheets[0], sheet_cells(9)), sheets[0])
        self.assertEqual((paging.place(sheets[0]), paging.cells(sheets[0])), (("frame", 0), sheet_cells(9)))
        self.assertEqual(paging.cells(sheets[1]), sheet_cells(1))

    def test_who_changes_a_shared_sheet_lies_alone(self):
        paging, sheets = filled(2, 0, 1)
        paging.share(sheets[0])
        made = paging.change(sheets[0], sheet_cells(9))
        self.assertNotEqual(made, sheets[0])
        self.assertEqual((paging.cells(sheets[0]), paging.cells(made)), (sheet_cells(0), sheet_cells(9)))
        self.assertEqual(paging.counts(), ([1, 1], []))
        self.assertEqual(paging.change(sheets[0], sheet_cells(8)), sheets[0])

    def test_a_frame_that_was_left_is_used_again(self):
        paging, sheets = filled(3, 0, 3)
        paging.leave(sheets[1])
        made = paging.new_sheet(sheet_cells(5))
        self.assertEqual((paging.place(made), paging.cells(made)), (("frame", 1), sheet_cells(5)))
        self.assertNotIn(made, sheets)

    def test_all_frames_taken(self):
        paging, sheets = filled(2, 0, 2)
        with self.assertRaises(NoRoom):
            paging.new_sheet(sheet_cells(7))
        paging.share(sheets[0])
        with self.assertRaises(NoRoom):
            paging.change(sheets[0], sheet_cells(7))
        self.assertEqual(paging.counts(), ([2, 1], []))
        self.assertEqual([paging.cells(sheet) for sheet in sheets], [sheet_cells(0), sheet_cells(1)])
        paging.change(sheets[1], sheet_cells(7))
        self.assertEqual(paging.cells(sheets[1]), sheet_cells(7))


class TestSlots(unittest.TestCase):
    def test_nothing_is_put_out_while_a_frame_is_free(self):
        paging, sheets = filled(3, 3, 3)
        self.assertEqual(kinds(paging, sheets), ["frame"] * 3)
        self.assertEqual(paging.counts(), ([1, 1, 1], [0, 0, 0]))

    def test_one_is_put_out_where_all_frames_are_taken(self):
        paging, sheets = filled(3, 2, 4)
        self.assertEqual(sorted(kinds(paging, sheets)), ["frame"] * 3 + ["slot"])
        self.assertEqual(paging.place(sheets[3])[0], "frame")
        self.assertEqual([paging.cells(sheet) for sheet in sheets], [sheet_cells(n) for n in range(4)])
        self.assertEqual(paging.counts(), ([1, 1, 1], [1, 0]))

    def test_reading_moves_nothing(self):
        paging, sheets = filled(2, 3, 5)
        before = [paging.place(sheet) for sheet in sheets]
        for sheet in sheets:
            paging.cells(sheet)
            paging.count(sheet)
        self.assertEqual([paging.place(sheet) for sheet in sheets], before)

    def test_fetch_brings_a_sheet_into_a_frame(self):
        paging, sheets = filled(2, 2, 3)
        out = [sheet for sheet in sheets if paging.place(sheet)[0] == "slot"][0]
        self.assertIsNone(paging.fetch(out))
        self.assertEqual((paging.place(out)[0], paging.cells(out)), ("frame", sheet_cells(sheets.index(out))))
        self.assertEqual(sorted(kinds(paging, sheets)), ["frame", "frame", "slot"])

    def test_fetch_where_all_frames_and_slots_are_taken(self):
        paging, sheets = filled(2, 2, 4)
        for sheet in sheets + sheets[::-1] + sheets[::2]:
            paging.fetch(sheet)
            self.assertEqual(paging.place(sheet)[0], "frame")
            self.assertEqual(paging.counts(), ([1, 1], [1, 1]))
            self.assertEqual([paging.cells(s) for s in sheets], [sheet_cells(n) for n in range(4)])

    def test_fetch_into_a_free_frame_puts_nothing_out(self):
        paging, sheets = filled(2, 2, 3)
        inside = [sheet for sheet in sheets if paging.place(sheet)[0] == "frame"]
        out = [sheet for sheet in sheets if sheet not in inside][0]
        paging.leave(inside[0])
        paging.fetch(out)
        self.assertEqual(kinds(paging, [inside[1], out]), ["frame", "frame"])
        self.assertEqual(paging.counts(), ([1, 1], [0, 0]))

    def test_the_sheet_used_last_is_not_put_out_next(self):
        paging, sheets = filled(2, 2, 2)
        paging.fetch(sheets[0])
        paging.new_sheet(sheet_cells(5))
        self.assertEqual(kinds(paging, sheets), ["frame", "slot"])

    def test_owners_go_along(self):
        paging, sheets = filled(1, 1, 1)
        paging.share(sheets[0])
        paging.share(sheets[0])
        made = paging.new_sheet(sheet_cells(5))
        self.assertEqual((paging.place(sheets[0]), paging.counts()), (("slot", 0), ([1], [3])))
        paging.fetch(sheets[0])
        self.assertEqual((paging.place(made), paging.counts()), (("slot", 0), ([3], [1])))

    def test_share_and_leave_of_a_sheet_in_a_slot(self):
        paging, sheets = filled(1, 1, 2)
        paging.share(sheets[0])
        self.assertEqual(paging.counts(), ([1], [2]))
        paging.leave(sheets[0])
        paging.leave(sheets[0])
        self.assertEqual(paging.counts(), ([1], [0]))
        with self.assertRaises(NoOwner):
            paging.cells(sheets[0])

    def test_change_of_a_sheet_in_a_slot(self):
        paging, sheets = filled(1, 1, 2)
        self.assertEqual(paging.change(sheets[0], sheet_cells(9)), sheets[0])
        self.assertEqual(kinds(paging, sheets), ["frame", "slot"])
        self.assertEqual([paging.cells(sheet) for sheet in sheets], [sheet_cells(9), sheet_cells(1)])

    def test_change_of_a_shared_sheet_in_a_slot(self):
        paging, sheets = filled(1, 2, 2)
        paging.share(sheets[0])
        made = paging.change(sheets[0], sheet_cells(9))
        self.assertEqual(kinds(paging, sheets + [made]), ["slot", "slot", "frame"])
        self.assertEqual([paging.cells(sheet) for sheet in sheets + [made]],
                         [sheet_cells(0), sheet_cells(1), sheet_cells(9)])
        self.assertEqual(paging.counts(), ([1], [1, 1]))

    def test_all_frames_and_slots_taken(self):
        paging, sheets = filled(2, 1, 3)
        paging.share(sheets[0])
        before = ([paging.place(sheet) for sheet in sheets], paging.counts())
        with self.assertRaises(NoRoom):
            paging.new_sheet(sheet_cells(7))
        with self.assertRaises(NoRoom):
            paging.change(sheets[0], sheet_cells(7))
        self.assertEqual(([paging.place(sheet) for sheet in sheets], paging.counts()), before)
        self.assertEqual([paging.cells(sheet) for sheet in sheets], [sheet_cells(n) for n in range(3)])


class TestWrongInputs(unittest.TestCase):
    def test_a_number_that_is_no_sheet(self):
        paging, sheets = filled(2, 1, 3)
        paging.leave(sheets[1])
        before = paging.counts()
        for wrong in (sheets[1], 0, -1, 99, LONG, -LONG):
            for deed in (paging.share, paging.leave, paging.cells, paging.fetch, paging.place, paging.count):
                with self.subTest(wrong=wrong), self.assertRaises(NoOwner):
                    deed(wrong)
            with self.assertRaises(NoOwner):
                paging.change(wrong, sheet_cells(1))
        self.assertEqual(paging.counts(), before)


class TestOwnLists(unittest.TestCase):
    def test_lists_handed_in_and_told_may_be_changed(self):
        paging = Paging(2, 1)
        handed = sheet_cells(1)
        sheet = paging.new_sheet(handed)
        handed[0] = 50
        self.assertEqual(paging.cells(sheet), sheet_cells(1))
        handed = sheet_cells(2)
        paging.change(sheet, handed)
        handed[0] = 50
        paging.cells(sheet)[1] = 50
        self.assertEqual(paging.cells(sheet), sheet_cells(2))

    def test_counts_are_new_lists(self):
        paging, sheets = filled(2, 2, 1)
        told = paging.counts()
        told[0][0] = 9
        told[1].append(9)
        self.assertEqual(paging.counts(), ([1, 0], [0, 0]))
        self.assertIsNot(paging.counts()[0], paging.counts()[0])
        self.assertIsNot(Paging(2, 2).counts()[0], Paging(2, 2).counts()[1])

    def test_two_pagings_have_nothing_in_common(self):
        one, sheets = filled(2, 2, 3)
        other = Paging(2, 2)
        self.assertEqual(other.counts(), ([0, 0], [0, 0]))
        with self.assertRaises(NoOwner):
            other.cells(sheets[0])


class TestRows(unittest.TestCase):
    """Long rows of deeds against a dict from each sheet to its cells and owners."""

    def test_rows_of_deeds(self):
        for seed in range(40):
            draws = Draws(seed)
            frames, slots = 1 + draws.below(4), draws.below(5)
            paging = Paging(frames, slots)
            plain = {}
            for turn in range(200):
                before = {sheet: paging.place(sheet) for sheet in plain}
                self.one_deed(draws, paging, plain, frames + slots)
                self.look(paging, plain, before)

    def one_deed(self, draws, paging, plain, total):
        deed = draws.one_of(("new", "new", "share", "leave", "change", "change", "fetch"))
        cells = [draws.below(256) for k in range(8)]
        if deed == "new" or not plain:
            if len(plain) == total:
                with self.assertRaises(NoRoom):
                    paging.new_sheet(cells)
            else:
                self.add(paging, plain, paging.new_sheet(cells), cells)
            return
        sheet = draws.one_of(sorted(plain))
        if deed == "change":
            self.change(paging, plain, total, sheet, cells)
            return
        getattr(paging, deed)(sheet)
        if deed == "fetch":
            self.assertEqual(paging.place(sheet)[0], "frame")
        else:
            self.own(plain, sheet, 1 if deed == "share" else -1)

    def add(self, paging, plain, sheet, cells):
        self.assertNotIn(sheet, plain)
        self.assertEqual(paging.place(sheet)[0], "frame")
        plain[sheet] = (cells, 1)

    def own(self, plain, sheet, more):
        plain[sheet] = (plain[sheet][0], plain[sheet][1] + more)
        if plain[sheet][1] == 0:
            del plain[sheet]

    def change(self, paging, plain, total, sheet, cells):
        if plain[sheet][1] == 1:
            self.assertEqual(paging.change(sheet, cells), sheet)
            self.assertEqual(paging.place(sheet)[0], "frame")
            plain[sheet] = (cells, 1)
        elif len(plain) == total:
            with self.assertRaises(NoRoom):
                paging.change(sheet, cells)
        else:
            self.add(paging, plain, paging.change(sheet, cells), cells)
            self.own(plain, sheet, -1)

    def look(self, paging, plain, before):
        counts = paging.counts()
        lying = {("frame", n): many for n, many in enumerate(counts[0]) if many}
        lying.update({("slot", n): many for n, many in enumerate(counts[1]) if many})
        self.assertEqual(lying, {paging.place(sheet): plain[sheet][1] for sheet in plain})
        self.assertEqual(len(lying), len(plain))
        for sheet in plain:
            self.assertEqual(paging.cells(sheet), plain[sheet][0])
            if 0 in counts[0] and paging.place(sheet)[0] == "slot":
                self.assertEqual(before[sheet][0], "slot")


if __name__ == "__main__":
    unittest.main()
