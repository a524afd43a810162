"""Nodes of both makes: what they hold, and on a disk where that lies."""

import unittest

from helper import LONG, formatted
from ownroom.nodes import NODES, Nodes, blocks_for, free_blocks, free_nodes
from ownroom.plainnodes import PlainNodes

SIZES = (0, 1, 15, 16, 17, 48, 63, 64, 65, 80, 81, 319, 320)


def cells(size, seed=1):
    return [1 + (seed * 37 + k) % 255 for k in range(size)]


class TestBlocksFor(unittest.TestCase):
    def test_each_size(self):
        want = [0] + [n for n in (1, 2, 3, 4) for k in range(16)] + [n + 1 for n in range(5, 21) for k in range(16)]
        self.assertEqual([blocks_for(size) for size in range(321)], want)


class NodeDeeds:
    def test_the_root_alone_at_first(self):
        nodes = self.nodes(30)
        self.assertEqual([nodes.kind_of(n) for n in range(NODES)], ["dir"] + [None] * 23)
        self.assertEqual((nodes.links_of(0), nodes.size_of(0), nodes.cells_of(0)), (1, 0, []))
        self.assertEqual((free_nodes(nodes), free_blocks(nodes)), (list(range(1, 24)), 30))

    def test_numbers_that_are_no_nodes(self):
        nodes = self.nodes(30)
        for n in (-1, -24, 24, 25, 48, LONG, -LONG):
            self.assertIsNone(nodes.kind_of(n))

    def test_begin_and_end(self):
        nodes = self.nodes(30)
        for n in range(1, 24):
            nodes.begin_node(n, "dir" if n % 3 == 0 else "file")
        self.assertEqual(free_nodes(nodes), [])
        for n in range(1, 24):
            self.assertEqual(nodes.kind_of(n), "dir" if n % 3 == 0 else "file")
            self.assertEqual((nodes.links_of(n), nodes.size_of(n), nodes.cells_of(n)), (1, 0, []))
        for n in (1, 8, 23):
            nodes.end_node(n)
        self.assertEqual(free_nodes(nodes), [1, 8, 23])
        nodes.begin_node(8, "dir")
        self.assertEqual((nodes.kind_of(8), nodes.links_of(8), nodes.cells_of(8)), ("dir", 1, []))

    def test_links(self):
        nodes = self.nodes(30)
        for n in (1, 2, 3):
            nodes.begin_node(n, "file")
            nodes.put_cells(n, cells(100, n))
        for links in (2, 40, 900, 0, 1):
            nodes.put_links(2, links)
            self.assertEqual([nodes.links_of(n) for n in (1, 2, 3)], [1, links, 1])
            self.assertEqual([nodes.cells_of(n) for n in (1, 2, 3)], [cells(100, n) for n in (1, 2, 3)])

    def test_cells_from_each_size_to_each(self):
        for size in SIZES:
            for other in SIZES:
                nodes = self.nodes(63)
                for n in (4, 5, 6):
                    nodes.begin_node(n, "file")
                for n, first in ((4, 70), (5, size), (6, 90)):
                    nodes.put_cells(n, cells(first, n))
                    nodes.finish()
                nodes.put_cells(5, cells(other, 9))
                want = [cells(70, 4), cells(other, 9), cells(90, 6)]
                for turn in range(2):
                    self.assertEqual([nodes.cells_of(n) for n in (4, 5, 6)], want)
                    self.assertEqual([nodes.size_of(n) for n in (4, 5, 6)], [70, other, 90])
                    self.assertEqual(free_blocks(nodes), 63 - 6 - 7 - blocks_for(other))
                    nodes.finish()

    def test_all_blocks_are_used(self):
        for total in (1, 2, 4, 6, 21, 22, 192):
            nodes = self.nodes(total)
            left = total
            for n in range(1, 24):
                nodes.begin_node(n, "file")
                size = max(size for size in range(321) if blocks_for(size) <= left)
                nodes.put_cells(n, cells(size, n))
                left -= blocks_for(size)
                self.assertEqual((nodes.cells_of(n), free_blocks(nodes)), (cells(size, n), left))
                nodes.finish()
            self.assertEqual(free_blocks(nodes), 0)
            nodes.end_node(1)
            nodes.finish()
            free = free_blocks(nodes)
            nodes.put_cells(2, [])
            self.assertGreaterEqual(free_blocks(nodes), free)

    def test_lists_are_the_askers_own(self):
        nodes = self.nodes(30)
        nodes.begin_node(1, "file")
        given = cells(70)
        nodes.put_cells(1, given)
        given[0] = 99
        given.append(7)
        told = nodes.cells_of(1)
        told[1] = 99
        told.append(7)
        self.assertEqual(nodes.cells_of(1), cells(70))
        nodes.finish()
        self.assertEqual(nodes.cells_of(1), cells(70))


class TestNodes(NodeDeeds, unittest.TestCase):
    def nodes(self, blocks):
        return Nodes(formatted(blocks))

    def test_they_are_on_the_disk_behind_the_finish(self):
        disk = formatted(63)
        nodes = Nodes(disk)
        for n, size in enumerate((320, 0, 65, 64), start=3):
            nodes.begin_node(n, "file")
            nodes.put_cells(n, cells(size, n))
            nodes.put_links(n, n)
            self.assertIsNone(Nodes(disk).kind_of(n))
            self.assertIsNone(nodes.finish())
        again = Nodes(disk)
        for n, size in enumerate((320, 0, 65, 64), start=3):
            self.assertEqual((again.kind_of(n), again.links_of(n), again.cells_of(n)), ("file", n, cells(size, n)))
        self.assertEqual(free_blocks(again), 63 - 21 - 6 - 4)

    def test_no_block_has_two_nodes(self):
        nodes = Nodes(formatted(192))
        for turn in range(60):
            n = 1 + turn % 11
            if nodes.kind_of(n) is None:
                nodes.begin_node(n, "file")
            nodes.put_cells(n, cells(turn * 83 % 321, turn))
            if turn % 7 == 6:
                nodes.end_node(1 + turn % 5)
            nodes.finish()
            blocks = [block for n in range(24) for block in nodes.blocks_of(n)]
            self.assertEqual(len(blocks), len(set(blocks)))
            self.assertEqual(len(blocks), 192 - free_blocks(nodes))
            self.assertEqual(sorted(blocks + nodes.unused_blocks()), list(range(48, 240)))

    def test_only_changed_blocks_are_written(self):
        disk = formatted(63)
        nodes = Nodes(disk)
        nodes.begin_node(1, "file")
        nodes.put_cells(1, cells(320))
        nodes.finish()
        image = disk.image()
        other = cells(320)
        other[100] = 0
        nodes.put_cells(1, other)
        nodes.finish()
        changed = [n for n in range(28, len(image)) if disk.read(n) != image[n]]
        self.assertEqual(len(changed), 1)
        done = disk.writes()
        nodes.put_cells(1, other)
        nodes.put_links(1, 1)
        nodes.finish()
        self.assertEqual(disk.writes(), done)


class TestPlainNodes(NodeDeeds, unittest.TestCase):
    def nodes(self, blocks):
        return PlainNodes(blocks)

    def test_the_finish_tells_nothing(self):
        self.assertIsNone(PlainNodes(3).finish())


if __name__ == "__main__":
    unittest.main()
