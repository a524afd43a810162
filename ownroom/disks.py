"""Disks: numbered blocks that are written wholly or not at all, and a fall at any write."""

from ownroom.errors import Fallen, NoBlock

BLOCK_NUMBERS = 16


class Disk:
    def __init__(self, many):
        self.blocks = [[0] * BLOCK_NUMBERS for n in range(many)]
        self.done = 0
        # The writes that are done ahead of the fall, None where no fall is ahead.
        self.until_fall = None
        self.fallen = False

    def read(self, n):
        self.refuse_no_block(n)
        self.refuse_fallen()
        return list(self.blocks[n])

    def write(self, n, numbers):
        self.refuse_no_block(n)
        # The disk falls at this write, not ahead of it: until then it is still read.
        if self.until_fall == 0:
            self.fallen = True
        self.refuse_fallen()
        self.blocks[n] = list(numbers)
        self.done += 1
        if self.until_fall is not None:
            self.until_fall -= 1

    def writes(self):
        return self.done

    def fall(self, after):
        self.until_fall = after

    def rise(self):
        self.until_fall = None
        self.fallen = False

    def image(self):
        return [list(block) for block in self.blocks]

    def refuse_no_block(self, n):
        # A number below 0 would count from the list's end.
        if n < 0 or n >= len(self.blocks):
            raise NoBlock(f"{n} is no block")

    def refuse_fallen(self):
        if self.fallen:
            raise Fallen("the disk has fallen")
