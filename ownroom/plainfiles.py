"""Plain files: the same deeds as files on a disk, without a disk, each node's cells a whole list of its own."""

from ownroom.files import Files
from ownroom.plainnodes import PlainNodes


class PlainFiles(Files):
    def __init__(self, blocks):
        Files.__init__(self, PlainNodes(blocks))
