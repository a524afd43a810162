"""Plain nodes: what Nodes has, without a disk, each node's cells a whole list of its own."""

from ownroom.nodes import ROOT


class PlainNodes:
    def __init__(self, total):
        self.total = total
        self.kinds = {ROOT: "dir"}
        self.links = {ROOT: 1}
        self.lists = {ROOT: []}

    def kind_of(self, n):
        return self.kinds.get(n)

    def links_of(self, n):
        return self.links[n]

    def size_of(self, n):
        return len(self.lists[n])

    def cells_of(self, n):
        return list(self.lists[n])

    def begin_node(self, n, kind):
        self.kinds[n] = kind
        self.links[n] = 1
        self.lists[n] = []

    def end_node(self, n):
        self.kinds.pop(n)
        self.links.pop(n)
        self.lists.pop(n)

    def put_links(self, n, links):
        self.links[n] = links

    def put_cells(self, n, cells):
        self.lists[n] = list(cells)

    # Nothing is drafted here: each change is made when it is asked for.
    def finish(self):
        pass
