"""Nodes on a disk: dirs and files with their contents, whole numbers that are called cells here for both.

The blocks 28 to 39 have a row of eight numbers for each node: its kind, its
links, its size, and its first five blocks. The fifth one has a list of the
further ones, all others have its cells. Which blocks are free is written
nowhere, so that it never speaks against the rows: those that no node has.
"""

from ownroom.disks import BLOCK_NUMBERS
from ownroom.drafts import Draft

NODES = 24
ROOT = 0
NODE_CELLS = 320
FIRST_ROWS = 28
FIRST_CONTENTS = 48
ROW_NUMBERS = 8
ROW_BLOCKS = 5
NEAR_BLOCKS = 4
# A kind's place here stands for it in a row; a row of noughts is that of a free node.
KINDS = (None, "file", "dir")


def blocks_for(size):
    begun = (size + BLOCK_NUMBERS - 1) // BLOCK_NUMBERS
    return begun + 1 if begun > NEAR_BLOCKS else begun


# The functions here take nodes of either make.
def free_nodes(nodes):
    return [n for n in range(NODES) if nodes.kind_of(n) is None]


def free_blocks(nodes):
    sizes = [nodes.size_of(n) for n in range(NODES) if nodes.kind_of(n) is not None]
    return nodes.total - sum([blocks_for(size) for size in sizes])


def filled(numbers, many):
    return numbers + [0] * (many - len(numbers))


class Nodes:
    def __init__(self, disk):
        self.draft = Draft(disk)
        self.total = len(disk.image()[FIRST_CONTENTS:])

    def kind_of(self, n):
        if n < 0 or n >= NODES:
            return None
        return KINDS[self.row_of(n)[0]]

    def links_of(self, n):
        return self.row_of(n)[1]

    def size_of(self, n):
        return self.row_of(n)[2]

    def cells_of(self, n):
        cells = []
        for block in self.cell_blocks(self.blocks_of(n)):
            cells.extend(self.draft.read(block))
        return cells[:self.size_of(n)]

    def begin_node(self, n, kind):
        self.put_row(n, KINDS.index(kind), 1, 0, [])

    def end_node(self, n):
        self.put_row(n, 0, 0, 0, [])

    def put_links(self, n, links):
        row = self.row_of(n)
        self.put_row(n, row[0], links, row[2], row[ROW_NUMBERS - ROW_BLOCKS:])

    # Blocks must not lack: whoever asks has looked at that.
    def put_cells(self, n, cells):
        blocks = (self.blocks_of(n) + self.unused_blocks())[:blocks_for(len(cells))]
        for k, block in enumerate(self.cell_blocks(blocks)):
            self.draft.write(block, filled(cells[BLOCK_NUMBERS * k:BLOCK_NUMBERS * (k + 1)], BLOCK_NUMBERS))
        if len(blocks) > NEAR_BLOCKS:
            self.draft.write(blocks[NEAR_BLOCKS], filled(blocks[ROW_BLOCKS:], BLOCK_NUMBERS))
        row = self.row_of(n)
        self.put_row(n, row[0], row[1], len(cells), blocks[:ROW_BLOCKS])

    def finish(self):
        self.draft.finish()

    def row_of(self, n):
        start = ROW_NUMBERS * n % BLOCK_NUMBERS
        return self.draft.read(self.block_of_row(n))[start:start + ROW_NUMBERS]

    def put_row(self, n, kind, links, size, blocks):
        start = ROW_NUMBERS * n % BLOCK_NUMBERS
        rows = self.draft.read(self.block_of_row(n))
        row = [kind, links, size] + filled(blocks, ROW_BLOCKS)
        self.draft.write(self.block_of_row(n), rows[:start] + row + rows[start + ROW_NUMBERS:])

    def block_of_row(self, n):
        return FIRST_ROWS + ROW_NUMBERS * n // BLOCK_NUMBERS

    # All blocks that a node has, the one with the list of the further ones among them.
    def blocks_of(self, n):
        row = self.row_of(n)
        blocks = row[ROW_NUMBERS - ROW_BLOCKS:]
        many = blocks_for(row[2])
        if many > NEAR_BLOCKS:
            blocks = blocks + self.draft.read(blocks[NEAR_BLOCKS])
        return blocks[:many]

    def cell_blocks(self, blocks):
        return blocks[:NEAR_BLOCKS] + blocks[ROW_BLOCKS:]

    def unused_blocks(self):
        used = {}
        for n in range(NODES):
            for block in self.blocks_of(n):
                used[block] = True
        return [block for block in range(FIRST_CONTENTS, FIRST_CONTENTS + self.total) if block not in used]
