import unittest

from helper import NAMES, formatted, outcome, refused
from ownroom.dirs import (names_in, node_named, put_slots, refuse_full, slots_of, slots_with, slots_without, way_along,
                          way_to_new)
from ownroom.nodes import Nodes
from ownroom.plainnodes import PlainNodes


class TestSlots(unittest.TestCase):
    def test_a_name_takes_the_least_free_slot(self):
        slots = []
        for node, name in enumerate(("a", "bb", "ccc", "dddd", "eeeee", "ffffff"), start=1):
            slots = slots_with(slots, name, node)
        self.assertEqual(slots, [("a", 1), ("bb", 2), ("ccc", 3), ("dddd", 4), ("eeeee", 5), ("ffffff", 6)])
        slots = slots_without(slots_without(slots_without(slots, "eeeee"), "bb"), "ffffff")
        self.assertEqual(slots, [("a", 1), None, ("ccc", 3), ("dddd", 4), None, None])
        slots = slots_with(slots, "x", 9)
        self.assertEqual(slots, [("a", 1), ("x", 9), ("ccc", 3), ("dddd", 4), None, None])
        slots = slots_with(slots, "y", 10)
        self.assertEqual(slots, [("a", 1), ("x", 9), ("ccc", 3), ("dddd", 4), ("y", 10), None])
        slots = slots_with(slots_with(slots, "z", 11), "w", 12)
        self.assertEqual(slots[5:], [("z", 11), ("w", 12)])

    def test_the_lists_handed_in_are_not_changed(self):
        slots = [("a", 1), None, ("b", 2)]
        slots_with(slots, "c", 3)
        slots_without(slots, "b")
        self.assertEqual(slots, [("a", 1), None, ("b", 2)])

    def test_names_and_nodes(self):
        slots = [None, ("b", 4), ("abc", 7), None, ("ab", 4), ("a", 23)]
        self.assertEqual(names_in(slots), ["a", "ab", "abc", "b"])
        self.assertEqual([node_named(slots, name) for name in ("a", "ab", "abc", "b")], [23, 4, 7, 4])
        self.assertEqual([node_named(slots, name) for name in ("c", "bc", "abcd", "")], [None] * 4)
        self.assertEqual(slots_without(slots, "c"), slots)

    def test_full_at_forty_taken_slots(self):
        slots = [(name, 1) for name in NAMES]
        self.assertEqual(outcome(refuse_full, slots), refused("TooMany"))
        for fewer in ([], slots[:39], slots[:5] + [None] + slots[6:], [None] * 40):
            self.assertEqual(outcome(refuse_full, fewer), ("told", None))

    def test_slots_lie_in_nodes(self):
        slots = [("a", 1), None, ("zzzzzz", 23), ("abcdef", 0), None, ("mno", 12), None]
        for make in (lambda: Nodes(formatted(40)), lambda: PlainNodes(40)):
            nodes = make()
            put_slots(nodes, 0, slots)
            nodes.finish()
            self.assertEqual(slots_of(nodes, 0), slots)
            self.assertEqual(nodes.size_of(0), 8 * 7)
            self.assertTrue(all(0 <= cell <= 255 for cell in nodes.cells_of(0)))
            put_slots(nodes, 0, [(name, 5) for name in NAMES])
            self.assertEqual(slots_of(nodes, 0), [(name, 5) for name in NAMES])
            self.assertEqual(nodes.size_of(0), 320)


class TestWays(unittest.TestCase):
    def setUp(self):
        self.nodes = PlainNodes(40)
        for node, kind in ((3, "dir"), (5, "dir"), (7, "file")):
            self.nodes.begin_node(node, kind)
        put_slots(self.nodes, 0, [None, ("d", 3), ("f", 7)])
        put_slots(self.nodes, 3, [("e", 5)])

    def test_ways(self):
        for names, want in (([], [0]), (["d"], [0, 3]), (["d", "e"], [0, 3, 5]), (["f"], [0, 7])):
            self.assertEqual(way_along(self.nodes, names), want)

    def test_the_first_refusal_that_is_met(self):
        for names, name in ((["x"], "NoName"), (["x", "d"], "NoName"), (["f", "x"], "NotDir"),
                            (["f", "x", "y"], "NotDir"), (["d", "x"], "NoName"), (["d", "e", "x", "f"], "NoName")):
            self.assertEqual(outcome(way_along, self.nodes, names), refused(name))

    def test_new_names(self):
        self.assertEqual(way_to_new(self.nodes, ["x"]), [0])
        self.assertEqual(way_to_new(self.nodes, ["d", "e", "x"]), [0, 3, 5])
        for names, name in (([], "Taken"), (["d"], "Taken"), (["f"], "Taken"), (["d", "e"], "Taken"),
                            (["f", "x"], "NotDir"), (["x", "y"], "NoName"), (["f", "x", "y"], "NotDir")):
            self.assertEqual(outcome(way_to_new, self.nodes, names), refused(name))


if __name__ == "__main__":
    unittest.main()
