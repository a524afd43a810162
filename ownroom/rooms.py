"""Rooms: each task's pages, shared behind a copy until they are poked, in frames or put out to slots."""

from ownroom.paging import Paging
from ownroom.spans import pages_of_cells, pages_to_drop, pages_to_map, pages_with
from ownroom.spans import refuse_above, refuse_second_room, room_of, run_within
from ownroom.stores import PAGE_CELLS
from ownroom.tables import Table

BLANK = ("blank",)


class Rooms:
    def __init__(self, frames, slots):
        self.paging = Paging(frames, slots)
        self.total = frames + slots
        # From each task to the table of its room, whose entries are BLANK or ("sheet", the sheet's number).
        self.rooms = {}

    def begin(self, task):
        refuse_second_room(self.rooms, task)
        self.rooms[task] = Table()

    def close(self, task):
        table = room_of(self.rooms, task)
        self.leave_pages(table, table.pages())
        self.rooms.pop(task)

    def map(self, task, page, many):
        table = room_of(self.rooms, task)
        pages = pages_to_map(table.pages(), page, many)
        refuse_above(self.held() + len(pages), self.total)
        for wanted in pages:
            table.lay(wanted, BLANK)

    def drop(self, task, page, many):
        table = room_of(self.rooms, task)
        self.leave_pages(table, pages_to_drop(table.pages(), page, many))

    def peek(self, task, address, many):
        table = room_of(self.rooms, task)
        whole = []
        # By rising pages, so that the last cell's page is the one used last and stays in its frame.
        for page in pages_of_cells(table.pages(), address, many):
            entry = table.get(page)
            if entry != BLANK:
                self.paging.fetch(entry[1])
            whole.extend(self.cells_of(entry))
        return run_within(whole, address, many)

    def poke(self, task, address, cells):
        table = room_of(self.rooms, task)
        pages = pages_of_cells(table.pages(), address, len(cells))
        whole = []
        for page in pages:
            whole.extend(self.cells_of(table.get(page)))
        for page, changed in zip(pages, pages_with(whole, address, cells)):
            table.lay(page, ("sheet", self.sheet_with(table.get(page), changed)))

    def copy(self, task, other):
        table = room_of(self.rooms, task)
        refuse_second_room(self.rooms, other)
        pages = table.pages()
        refuse_above(self.held() + len(pages), self.total)
        copied = Table()
        for page in pages:
            entry = table.get(page)
            copied.lay(page, entry)
            if entry != BLANK:
                self.paging.share(entry[1])
        self.rooms[other] = copied

    def held(self):
        return sum([len(self.rooms[task].pages()) for task in self.rooms])

    def place(self, task, page):
        entry = room_of(self.rooms, task).get(page)
        if entry is None or entry == BLANK:
            return entry
        return self.paging.place(entry[1])

    # The owners of a sheet are the pages that have it, and those of a blank page are none.
    def counts(self):
        return self.paging.counts()

    def leave_pages(self, table, pages):
        for page in pages:
            entry = table.get(page)
            table.clear(page)
            if entry != BLANK:
                self.paging.leave(entry[1])

    def cells_of(self, entry):
        if entry == BLANK:
            return [0] * PAGE_CELLS
        return self.paging.cells(entry[1])

    # Paging has room for it always: there are no more sheets than pages, and fewer where one is blank or shared.
    def sheet_with(self, entry, cells):
        if entry == BLANK:
            return self.paging.new_sheet(cells)
        return self.paging.change(entry[1], cells)
