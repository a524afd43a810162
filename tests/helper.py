"""What several test files use."""

import os

from ownroom.diskfiles import format_disk, mount
from ownroom.disks import Disk
from ownroom.errors import KernelError
from ownroom.plainfiles import PlainFiles
from ownroom.trees import tree

ROOT = os.path.dirname(os.path.dirname(os.path.abspath(__file__)))

LONG = 10 ** 60 - 1

# Forty names, as many as a dir has slots.
NAMES = [first + second for first in "abcdefgh" for second in "vwxyz"]


class Draws:
    """Numbers that look drawn by lot, the same ones at every run."""

    def __init__(self, seed):
        self.state = seed

    def below(self, many):
        self.state = (self.state * 6364136223846793005 + 1442695040888963407) % 2 ** 64
        return (self.state >> 33) % many

    def one_of(self, things):
        return things[self.below(len(things))]


def outcome(deed, *given):
    """What a deed tells or, where it is refused, the name of the refusal."""
    try:
        return "told", deed(*given)
    except KernelError as refusal:
        return "refused", type(refusal).__name__


def refused(name):
    return "refused", name


def disk_of(image):
    """A new disk with the blocks of another one."""
    disk = Disk(len(image))
    for n, block in enumerate(image):
        disk.write(n, block)
    return disk


def formatted(blocks):
    """A formatted disk with so many blocks for contents."""
    disk = Disk(48 + blocks)
    format_disk(disk)
    return disk


def disk_files(blocks):
    return mount(formatted(blocks))


def path_behind(path, name):
    return path + name if path == "/" else f"{path}/{name}"


def all_told(files):
    """All that files tell: of each path, of each node, and what is free."""
    by_path = {}
    ahead = ["/"]
    while ahead:
        path = ahead.pop()
        names = outcome(files.names, path)
        by_path[path] = files.find(path), names
        if names[0] == "told":
            ahead.extend(path_behind(path, name) for name in names[1])
    by_node = {node: (outcome(files.stat, node), outcome(files.read_at, node, 0, 320)) for node in range(24)}
    return by_path, by_node, files.free()


def use_up(files, pads, leave):
    """Makes files, given by their nodes, so long that just so many blocks are free."""
    for node in pads:
        files.cut(node, 0)
    for node in pads:
        wanted = files.free()[1] - leave
        files.cut(node, 16 * wanted if wanted <= 4 else min(16 * (wanted - 1), 320))
    if files.free()[1] != leave:
        raise ValueError("these files cannot use up so many blocks")


class FileDeeds:
    """For tests of a make of files; `files(blocks)` makes some with so many blocks for contents."""

    def refuse(self, files, name, *call):
        """A call is refused, and all is as it was."""
        before = all_told(files), tree(files)
        self.assertEqual(outcome(getattr(files, call[0]), *call[1:]), refused(name), call)
        self.assertEqual((all_told(files), tree(files)), before, call)


class OnADisk:
    files = staticmethod(disk_files)


class Plain:
    files = PlainFiles
