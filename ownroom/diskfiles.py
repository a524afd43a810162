"""Files on a disk: each deed is one commit of the journal, or none where it changes nothing on the disk."""

from ownroom.files import Files
from ownroom.journal import forget, recover
from ownroom.nodes import NODES, ROOT, Nodes


class DiskFiles(Files):
    def __init__(self, disk):
        Files.__init__(self, Nodes(disk))


def format_disk(disk):
    # A commit that fell here must not come back over the new root.
    forget(disk)
    nodes = Nodes(disk)
    for n in range(NODES):
        nodes.end_node(n)
    nodes.begin_node(ROOT, "dir")
    nodes.finish()


def mount(disk):
    recover(disk)
    end_nameless(Nodes(disk))
    return DiskFiles(disk)


# Files without names were held when the disk was left, and holds are not on the disk. Free nodes stay so.
def end_nameless(nodes):
    for n in range(NODES):
        if nodes.links_of(n) == 0:
            nodes.end_node(n)
    nodes.finish()
