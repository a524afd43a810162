"""Dirs: nodes whose cells are slots, each free or with a name and the node that it leads to.

A slot is a pair, None where it is free. In a node it is eight cells: the
places of the name's letters among all letters, counted from 1, with noughts
behind them up to six, then the node, then a nought.
"""

from ownroom.errors import NoName, NotDir, Taken, TooMany
from ownroom.nodes import ROOT
from ownroom.paths import LETTERS, NAME_LETTERS

SLOT_CELLS = 8
DIR_SLOTS = 40


def slot_in(cells):
    name = "".join([LETTERS[place - 1] for place in cells[:NAME_LETTERS] if place > 0])
    return None if name == "" else (name, cells[NAME_LETTERS])


def cells_of_slot(slot):
    if slot is None:
        return [0] * SLOT_CELLS
    places = [LETTERS.index(letter) + 1 for letter in slot[0]]
    return places + [0] * (NAME_LETTERS - len(places)) + [slot[1], 0]


def slots_of(nodes, n):
    cells = nodes.cells_of(n)
    return [slot_in(cells[at:at + SLOT_CELLS]) for at in range(0, len(cells), SLOT_CELLS)]


def put_slots(nodes, n, slots):
    cells = []
    for slot in slots:
        cells.extend(cells_of_slot(slot))
    nodes.put_cells(n, cells)


def names_in(slots):
    return sorted([slot[0] for slot in slots if slot is not None])


def node_named(slots, name):
    for slot in slots:
        if slot is not None and slot[0] == name:
            return slot[1]
    return None


def slots_without(slots, name):
    return [None if slot is not None and slot[0] == name else slot for slot in slots]


def refuse_full(slots):
    if len(names_in(slots)) >= DIR_SLOTS:
        raise TooMany("all slots are taken")


def slots_with(slots, name, node):
    at = slots.index(None) if None in slots else len(slots)
    return slots[:at] + [(name, node)] + slots[at + 1:]


def refuse_no_dir(nodes, n):
    if nodes.kind_of(n) != "dir":
        raise NotDir(f"{n} is no dir")


# The nodes that are met on the way along a path's names, from the root on.
def way_along(nodes, names):
    way = [ROOT]
    for name in names:
        refuse_no_dir(nodes, way[-1])
        node = node_named(slots_of(nodes, way[-1]), name)
        if node is None:
            raise NoName(f"{name} is not there")
        way.append(node)
    return way


# The way to the dir in which a new path's last name is to stand.
def way_to_new(nodes, names):
    if len(names) == 0:
        raise Taken("the root is there")
    way = way_along(nodes, names[:-1])
    refuse_no_dir(nodes, way[-1])
    if names[-1] in names_in(slots_of(nodes, way[-1])):
        raise Taken("the name is there")
    return way
