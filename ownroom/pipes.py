"""Pipes: cells go in at the writing end and come out at the reading end, in the order in which they went in."""

from ownroom.errors import Again, Broken, TooBig

PIPE_CELLS = 16


class Pipe:
    def __init__(self):
        # The cells that were written and not read yet.
        self.waiting = []
        self.has_reader = True
        self.has_writer = True

    def end_reading(self):
        self.has_reader = False

    def end_writing(self):
        self.has_writer = False

    def read(self, many):
        if many < 0:
            raise TooBig(f"{many} is no count of cells")
        # Without a writer none will ever come: nothing is told then, so that nobody waits for it.
        if many > 0 and len(self.waiting) == 0 and self.has_writer:
            raise Again("no cell is there yet")
        first = self.waiting[:many]
        self.waiting = self.waiting[many:]
        return first

    def write(self, cells):
        if len(cells) > PIPE_CELLS:
            raise TooBig(f"a pipe has room for {PIPE_CELLS} cells")
        if not self.has_reader:
            raise Broken("nobody reads any more")
        if len(self.waiting) + len(cells) > PIPE_CELLS:
            raise Again("there is not room for all cells")
        self.waiting = self.waiting + cells
        return len(cells)
