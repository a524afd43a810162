"""Stores: numbered pages of eight cells, each with a count of owners."""

from ownroom.errors import NoOwner

PAGE_CELLS = 8


class Store:
    def __init__(self, many):
        self.owners = [0] * many
        self.contents = [None] * many

    def take(self):
        if 0 not in self.owners:
            return None
        n = self.owners.index(0)
        self.owners[n] = 1
        self.contents[n] = [0] * PAGE_CELLS
        return n

    def more(self, n):
        self.refuse_free(n)
        self.owners[n] += 1

    def less(self, n):
        self.refuse_free(n)
        self.owners[n] -= 1

    def count(self, n):
        # A number below 0 would count from the list's end.
        if n < 0 or n >= len(self.owners):
            return 0
        return self.owners[n]

    def cells(self, n):
        self.refuse_free(n)
        return list(self.contents[n])

    def put(self, n, cells):
        self.refuse_free(n)
        self.contents[n] = list(cells)

    def free(self):
        return self.owners.count(0)

    def refuse_free(self, n):
        if self.count(n) == 0:
            raise NoOwner(f"{n} is no taken page")
