"""Drafts: changes of a disk's blocks that are gathered, and made together by one commit."""

from ownroom.journal import commit


class Draft:
    def __init__(self, disk):
        self.disk = disk
        self.drafted = {}

    def read(self, n):
        if n in self.drafted:
            return list(self.drafted[n])
        return self.disk.read(n)

    def write(self, n, numbers):
        self.drafted[n] = list(numbers)

    # Blocks that were written anew as they stood are left out: where no other is there, nothing is to be committed.
    def finish(self):
        changes = {}
        for n in self.drafted:
            if self.drafted[n] != self.disk.read(n):
                changes[n] = self.drafted[n]
        self.drafted = {}
        if len(changes) > 0:
            commit(self.disk, changes)
