"""Walks through all dirs, plainly from the root on, in files of either make.

A step of a walk is a pair, the path of a name and the node that it leads to.
"""

from ownroom.dirs import slots_of
from ownroom.nodes import ROOT


# The root's path is given as an empty text: each name has its own stroke ahead.
def steps_within(nodes, step):
    return [(step[0] + "/" + slot[0], slot[1]) for slot in slots_of(nodes, step[1]) if slot is not None]


# All steps by rising paths. A node of several names is met by each of them, one without names never.
def walk(nodes):
    met = []
    ahead = [("", ROOT)]
    while len(ahead) > 0:
        within = steps_within(nodes, ahead.pop())
        met.extend(within)
        ahead.extend([step for step in within if nodes.kind_of(step[1]) == "dir"])
    return sorted(met)
