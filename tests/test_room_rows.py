"""Long rows of deeds on Rooms and PlainRooms, beside a model that keeps to the words of the document."""

import collections
import unittest

from helper import LONG, Draws, outcome
from ownroom.errors import NoPage, NoRoom, NoTask, Taken
from ownroom.plainrooms import PlainRooms
from ownroom.rooms import Rooms

TASKS = (1, 2, 3, -7, LONG, -LONG)


class Model:
    """Each page is a pair: its cells and the poke by which it stands, None where it is blank."""

    def __init__(self, total):
        self.total = total
        self.rooms = {}
        self.pokes = 0
        # The task and page of the last cell that was peeked or poked, None where that page is gone.
        self.last = None

    def begin(self, task):
        if task in self.rooms:
            raise Taken
        self.rooms[task] = {}

    def room(self, task):
        if task not in self.rooms:
            raise NoTask
        return self.rooms[task]

    def close(self, task):
        for page in list(self.room(task)):
            self.lose(task, page)
        del self.rooms[task]

    def lose(self, task, page):
        del self.rooms[task][page]
        if self.last == (task, page):
            self.last = None

    def map(self, task, page, many):
        room = self.room(task)
        wanted = range(page, page + min(many, 100))
        if many < 1 or any(p not in range(64) for p in wanted):
            raise NoPage
        if any(p in room for p in wanted):
            raise Taken
        if self.held() + many > self.total:
            raise NoRoom
        room.update({p: ([0] * 8, None) for p in wanted})

    def drop(self, task, page, many):
        room = self.room(task)
        wanted = range(page, page + min(many, 100))
        if many < 1 or any(p not in room for p in wanted):
            raise NoPage
        for p in wanted:
            self.lose(task, p)

    def addresses(self, room, address, many):
        found = range(address, address + min(many, 1000))
        if many < 0 or any(a // 8 not in room for a in found):
            raise NoPage
        return found

    def peek(self, task, address, many):
        room = self.room(task)
        found = self.addresses(room, address, many)
        if many:
            self.last = (task, found[-1] // 8)
        return [room[a // 8][0][a % 8] for a in found]

    def poke(self, task, address, cells):
        room = self.room(task)
        found = self.addresses(room, address, len(cells))
        self.pokes += 1
        for a, cell in zip(found, cells):
            page = a // 8
            room[page] = (room[page][0][:], (self.pokes, page))
            room[page][0][a % 8] = cell
            self.last = (task, page)

    def copy(self, task, other):
        room = self.room(task)
        if other in self.rooms:
            raise Taken
        if self.held() + len(room) > self.total:
            raise NoRoom
        self.rooms[other] = dict(room)

    def held(self):
        return sum(len(room) for room in self.rooms.values())

    def stands(self):
        return {(task, page): self.rooms[task][page][1] for task in self.rooms for page in self.rooms[task]}


class Deeds:
    """Draws deeds, most of them such that are not refused."""

    def __init__(self, seed, pages):
        self.draws = Draws(seed)
        self.pages = pages

    def odd_or(self, number):
        if self.draws.below(14):
            return number
        return self.draws.one_of((0, -1, 62, 63, 64, 511, 512, LONG, -LONG, number))

    def deed(self):
        draws = self.draws
        name = draws.one_of(("begin", "close", "map", "map", "drop", "copy", "copy") + ("peek",) * 5 + ("poke",) * 6)
        task = draws.one_of(TASKS[:2 + draws.below(5)])
        if name in ("begin", "close"):
            return name, task
        if name == "copy":
            return name, task, draws.one_of(TASKS)
        if name in ("map", "drop"):
            return name, task, self.odd_or(draws.below(self.pages)), self.odd_or(1 + draws.below(3))
        address = self.odd_or(draws.below(8 * self.pages))
        many = draws.one_of((0, 1, 1, 2, 5, 8, 9, 20, 64))
        if name == "peek":
            return name, task, address, self.odd_or(many)
        return name, task, address, [draws.below(256) for k in range(many)]


class TestRows(unittest.TestCase):
    def row(self, seed, frames, slots, pages, many):
        deeds = Deeds(seed, pages)
        rooms, plain, model = Rooms(frames, slots), PlainRooms(frames + slots), Model(frames + slots)
        for turn in range(many):
            deed = deeds.deed()
            before = self.places(rooms, model)
            told = outcome(getattr(rooms, deed[0]), *deed[1:])
            self.assertEqual(told, outcome(getattr(model, deed[0]), *deed[1:]), (seed, turn, deed))
            self.assertEqual(told, outcome(getattr(plain, deed[0]), *deed[1:]), (seed, turn, deed))
            self.assertEqual((rooms.held(), plain.held()), (model.held(), model.held()))
            places = self.places(rooms, model)
            if told[0] == "refused":
                self.assertEqual(places, before, (seed, turn, deed))
            self.look(rooms, model, before, places)
        self.close_all(rooms, plain, model)

    def places(self, rooms, model):
        return {(task, page): rooms.place(task, page) for task in model.rooms for page in range(64)
                if rooms.place(task, page) is not None}

    def look(self, rooms, model, before, places):
        stands = model.stands()
        self.assertEqual(sorted(places), sorted(stands))
        by_poke = {}
        for key, poke in stands.items():
            self.assertEqual(places[key] == ("blank",), poke is None)
            if poke is not None:
                self.assertIn(places[key][0], ("frame", "slot"))
                self.assertEqual(by_poke.setdefault(poke, places[key]), places[key])
        self.assertEqual(len(set(by_poke.values())), len(by_poke))
        counts = rooms.counts()
        tally = collections.Counter(places.values())
        self.assertEqual(counts[0], [tally["frame", n] for n in range(len(counts[0]))])
        self.assertEqual(counts[1], [tally["slot", n] for n in range(len(counts[1]))])
        self.assertEqual(sum(tally.values()), sum(counts[0]) + sum(counts[1]) + tally[("blank",)])
        if model.last is not None:
            self.assertIn(places[model.last][0], ("frame", "blank"))
        if 0 in counts[0]:
            out = [key for key in places if places[key][0] == "slot" and key in before and before[key][0] == "frame"]
            self.assertEqual(out, [])

    def close_all(self, rooms, plain, model):
        for task in sorted(model.rooms):
            for page in model.rooms[task]:
                cells = model.peek(task, 8 * page, 8)
                self.assertEqual((rooms.peek(task, 8 * page, 8), plain.peek(task, 8 * page, 8)), (cells, cells))
        for task in sorted(model.rooms):
            rooms.close(task)
            plain.close(task)
        self.assertEqual((rooms.held(), plain.held()), (0, 0))
        self.assertEqual((sum(rooms.counts()[0]), sum(rooms.counts()[1])), (0, 0))

    def test_small_rooms(self):
        for seed in range(60):
            draws = Draws(seed)
            self.row(seed, 2 + draws.below(4), draws.below(9), 5, 150)

    def test_two_frames_and_slots(self):
        for seed in range(20):
            self.row(1000 + seed, 2, 2 + seed, 6, 150)

    def test_no_slots(self):
        for seed in range(20):
            self.row(2000 + seed, 2 + seed, 0, 6, 150)

    def test_great_rooms(self):
        for seed in range(4):
            self.row(3000 + seed, 40, 60, 64, 300)
            self.row(4000 + seed, 2, 60, 16, 300)


if __name__ == "__main__":
    unittest.main()
