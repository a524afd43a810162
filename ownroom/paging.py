"""Paging: sheets of cells that pages share, in frames or put out to slots.

A sheet is what one page or more have for their cells. Its number stays the
same wherever it lies, so that a room's table need not change when a sheet is
put out or fetched.
"""

from ownroom.errors import NoOwner, NoRoom
from ownroom.stores import Store


# What lies in a page of a store goes with all its owners: the pair of its cells and their count.
def lift(store, n):
    moved = (store.cells(n), store.count(n))
    while store.count(n) > 0:
        store.less(n)
    return moved


def settle(store, moved):
    n = store.take()
    store.put(n, moved[0])
    while store.count(n) < moved[1]:
        store.more(n)
    return n


class Paging:
    def __init__(self, frames, slots):
        self.frames = Store(frames)
        self.slots = Store(slots)
        self.places = {}
        self.last_sheet = 0
        # The sheets in frames, the one that was not used for longest first.
        self.in_frames = []

    # A new sheet in a frame, with one owner: its number.
    def new_sheet(self, cells):
        if self.frames.free() + self.slots.free() == 0:
            raise NoRoom("all frames and slots are taken")
        self.last_sheet += 1
        self.bring_in(self.last_sheet, (list(cells), 1))
        return self.last_sheet

    def share(self, sheet):
        self.store_of(sheet).more(self.number_of(sheet))

    def leave(self, sheet):
        store = self.store_of(sheet)
        n = self.number_of(sheet)
        store.less(n)
        if store.count(n) > 0:
            return
        if self.places[sheet][0] == "frame":
            self.in_frames.remove(sheet)
        self.places.pop(sheet)

    # Reading moves nothing; who must have the sheet in a frame asks fetch.
    def cells(self, sheet):
        return self.store_of(sheet).cells(self.number_of(sheet))

    # One owner of a sheet gets other cells, in a frame: the number of its sheet from now on, which it has alone.
    def change(self, sheet, cells):
        if self.count(sheet) > 1:
            made = self.new_sheet(cells)
            self.leave(sheet)
            return made
        self.fetch(sheet)
        self.frames.put(self.number_of(sheet), cells)
        return sheet

    def fetch(self, sheet):
        place = self.place(sheet)
        if place[0] == "frame":
            self.in_frames.remove(sheet)
            self.in_frames.append(sheet)
            return
        # The slot is left first: where all slots are taken, the sheet that is put out needs it.
        self.bring_in(sheet, lift(self.slots, place[1]))

    def bring_in(self, sheet, moved):
        # Nothing is put out while a frame is free.
        if self.frames.free() == 0:
            self.put_out(self.in_frames.pop(0))
        self.places[sheet] = ("frame", settle(self.frames, moved))
        self.in_frames.append(sheet)

    def put_out(self, sheet):
        moved = lift(self.frames, self.number_of(sheet))
        self.places[sheet] = ("slot", settle(self.slots, moved))

    def place(self, sheet):
        if sheet not in self.places:
            raise NoOwner(f"{sheet} is no sheet")
        return self.places[sheet]

    def number_of(self, sheet):
        return self.place(sheet)[1]

    def store_of(self, sheet):
        if self.place(sheet)[0] == "frame":
            return self.frames
        return self.slots

    def count(self, sheet):
        return self.store_of(sheet).count(self.number_of(sheet))

    # The owners of each frame, and of each slot.
    def counts(self):
        return (list(self.frames.owners), list(self.slots.owners))
