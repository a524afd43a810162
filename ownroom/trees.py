"""Trees: all that files of either make hold, path by path."""

from ownroom.plainwalks import walk


def tree(files):
    return [tree_row(files, step[0], step[1]) for step in walk(files.nodes)]


def tree_row(files, path, node):
    told = files.stat(node)
    cells = [] if told[0] == "dir" else files.read_at(node, 0, told[2])
    return (path, told[0], told[1], cells)
