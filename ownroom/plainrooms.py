"""Plain rooms: each task's pages as a whole copy of its own."""

from ownroom.spans import pages_of_cells, pages_to_drop, pages_to_map, pages_with
from ownroom.spans import refuse_above, refuse_second_room, room_of, run_within
from ownroom.stores import PAGE_CELLS


class PlainRooms:
    def __init__(self, total):
        self.total = total
        # From each task to its room, a dict from each mapped page to its cells.
        self.rooms = {}

    def begin(self, task):
        refuse_second_room(self.rooms, task)
        self.rooms[task] = {}

    def close(self, task):
        room_of(self.rooms, task)
        self.rooms.pop(task)

    def map(self, task, page, many):
        room = room_of(self.rooms, task)
        pages = pages_to_map(list(room), page, many)
        refuse_above(self.held() + len(pages), self.total)
        for wanted in pages:
            room[wanted] = [0] * PAGE_CELLS

    def drop(self, task, page, many):
        room = room_of(self.rooms, task)
        pages = pages_to_drop(list(room), page, many)
        for dropped in pages:
            room.pop(dropped)

    def peek(self, task, address, many):
        room = room_of(self.rooms, task)
        pages = pages_of_cells(list(room), address, many)
        return run_within(cells_of_pages(room, pages), address, many)

    def poke(self, task, address, cells):
        room = room_of(self.rooms, task)
        pages = pages_of_cells(list(room), address, len(cells))
        whole = cells_of_pages(room, pages)
        for page, changed in zip(pages, pages_with(whole, address, cells)):
            room[page] = changed

    def copy(self, task, other):
        room = room_of(self.rooms, task)
        refuse_second_room(self.rooms, other)
        refuse_above(self.held() + len(room), self.total)
        copied = {}
        for page in room:
            copied[page] = list(room[page])
        self.rooms[other] = copied

    def held(self):
        return sum([len(self.rooms[task]) for task in self.rooms])


def cells_of_pages(room, pages):
    cells = []
    for page in pages:
        cells.extend(room[page])
    return cells
