"""Files: the deeds by paths and by nodes, upon nodes of either make.

Every refusal comes ahead of a deed's first change, so that what is refused
changes nothing; then the changes of a deed are finished together.
"""

from ownroom.dirs import (SLOT_CELLS, names_in, put_slots, refuse_full, refuse_no_dir, slots_of, slots_with,
                          slots_without, way_along, way_to_new)
from ownroom.errors import Inside, IsDir, NoNode, NoSpace, NotAllowed, NotEmpty, NotHeld, TooBig
from ownroom.nodes import NODE_CELLS, ROOT, blocks_for, free_blocks, free_nodes
from ownroom.paths import names_of


def refuse_no_place(at):
    if at < 0 or at > NODE_CELLS:
        raise TooBig(f"{at} is not from 0 to {NODE_CELLS}")


def lengthened(cells, size):
    return cells + [0] * (size - len(cells))


class Files:
    def __init__(self, nodes):
        self.nodes = nodes
        # From each held file to how often it is held.
        self.holds = {}

    def find(self, path):
        return way_along(self.nodes, names_of(path))[-1]

    def make(self, path):
        return self.make_node(path, "file")

    def make_dir(self, path):
        return self.make_node(path, "dir")

    def link(self, path, new):
        names = names_of(path)
        new_names = names_of(new)
        node = way_along(self.nodes, names)[-1]
        self.refuse_dir(node)
        parent = way_to_new(self.nodes, new_names)[-1]
        slots = slots_of(self.nodes, parent)
        refuse_full(slots)
        self.put_name(parent, slots, new_names[-1], node)
        self.nodes.put_links(node, self.nodes.links_of(node) + 1)
        self.nodes.finish()

    def unlink(self, path):
        names = names_of(path)
        way = way_along(self.nodes, names)
        node = way[-1]
        self.refuse_dir(node)
        self.drop_name(way[-2], names[-1])
        self.nodes.put_links(node, self.nodes.links_of(node) - 1)
        self.end_left(node)
        self.nodes.finish()

    def remove_dir(self, path):
        names = names_of(path)
        way = way_along(self.nodes, names)
        node = way[-1]
        refuse_no_dir(self.nodes, node)
        if node == ROOT:
            raise NotAllowed("the root stays")
        if len(names_in(slots_of(self.nodes, node))) > 0:
            raise NotEmpty("the dir has names")
        self.drop_name(way[-2], names[-1])
        self.nodes.end_node(node)
        self.nodes.finish()

    def move(self, path, new):
        names = names_of(path)
        new_names = names_of(new)
        if len(names) == 0:
            raise NotAllowed("the root stays")
        old_way = way_along(self.nodes, names)
        node = old_way[-1]
        new_way = way_to_new(self.nodes, new_names)
        if node in new_way:
            raise Inside("a dir is not moved into itself")
        old = old_way[-2]
        parent = new_way[-1]
        old_slots = slots_without(slots_of(self.nodes, old), names[-1])
        # Within one dir the slot that becomes free is sought among, too.
        slots = old_slots if parent == old else slots_of(self.nodes, parent)
        refuse_full(slots)
        self.put_name(parent, slots, new_names[-1], node)
        if parent != old:
            put_slots(self.nodes, old, old_slots)
        self.nodes.finish()

    def names(self, path):
        node = self.find(path)
        refuse_no_dir(self.nodes, node)
        return names_in(slots_of(self.nodes, node))

    def stat(self, node):
        self.refuse_no_node(node)
        kind = self.nodes.kind_of(node)
        size = self.nodes.size_of(node)
        return (kind, self.nodes.links_of(node), size // SLOT_CELLS if kind == "dir" else size)

    def read_at(self, node, at, many):
        self.refuse_no_file(node)
        refuse_no_place(at)
        refuse_no_place(many)
        return self.nodes.cells_of(node)[at:at + many]

    def write_at(self, node, at, cells):
        self.refuse_no_file(node)
        refuse_no_place(at)
        refuse_no_place(at + len(cells))
        # The file is not made longer by a place alone.
        if len(cells) == 0:
            return 0
        old = lengthened(self.nodes.cells_of(node), at)
        self.put_whole(node, old[:at] + list(cells) + old[at + len(cells):])
        return len(cells)

    def cut(self, node, size):
        self.refuse_no_file(node)
        refuse_no_place(size)
        self.put_whole(node, lengthened(self.nodes.cells_of(node), size)[:size])

    def hold(self, node):
        self.refuse_no_file(node)
        self.holds[node] = self.holds.get(node, 0) + 1

    def loose(self, node):
        self.refuse_no_node(node)
        if node not in self.holds:
            raise NotHeld(f"{node} is not held")
        self.holds[node] -= 1
        if self.holds[node] == 0:
            self.holds.pop(node)
        self.end_left(node)
        self.nodes.finish()

    def free(self):
        return (len(free_nodes(self.nodes)), free_blocks(self.nodes))

    def make_node(self, path, kind):
        names = names_of(path)
        parent = way_to_new(self.nodes, names)[-1]
        slots = slots_of(self.nodes, parent)
        refuse_full(slots)
        unused = free_nodes(self.nodes)
        if len(unused) == 0:
            raise NoNode("no node is free")
        self.put_name(parent, slots, names[-1], unused[0])
        self.nodes.begin_node(unused[0], kind)
        self.nodes.finish()
        return unused[0]

    def put_name(self, parent, slots, name, node):
        grown = slots_with(slots, name, node)
        self.refuse_no_space(parent, SLOT_CELLS * len(grown))
        put_slots(self.nodes, parent, grown)

    def drop_name(self, parent, name):
        put_slots(self.nodes, parent, slots_without(slots_of(self.nodes, parent), name))

    def put_whole(self, node, cells):
        self.refuse_no_space(node, len(cells))
        self.nodes.put_cells(node, cells)
        self.nodes.finish()

    def end_left(self, node):
        if self.nodes.links_of(node) == 0 and node not in self.holds:
            self.nodes.end_node(node)

    def refuse_no_node(self, node):
        if self.nodes.kind_of(node) is None:
            raise NoNode(f"{node} is no node in use")

    def refuse_dir(self, node):
        if self.nodes.kind_of(node) == "dir":
            raise IsDir(f"{node} is a dir")

    def refuse_no_file(self, node):
        self.refuse_no_node(node)
        self.refuse_dir(node)

    def refuse_no_space(self, node, size):
        lacking = blocks_for(size) - blocks_for(self.nodes.size_of(node))
        if lacking > free_blocks(self.nodes):
            raise NoSpace("blocks lack")
