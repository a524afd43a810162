import unittest

from helper import LONG, Draws, outcome, refused
from ownroom.pipes import Pipe


def holding(cells):
    """A pipe with both ends open and these cells in it."""
    pipe = Pipe()
    pipe.write(cells)
    return pipe


def drained(pipe):
    """All cells that are still in a pipe."""
    pipe.end_writing()
    return pipe.read(LONG)


class TestOrder(unittest.TestCase):
    def test_parts_of_all_sizes(self):
        for parts in range(1, 17):
            for taken in range(1, 18):
                pipe, went, came = Pipe(), 0, []
                while len(came) < 100:
                    cells = [(went + k) % 256 for k in range(parts)]
                    if outcome(pipe.write, cells) == ("told", parts):
                        went += parts
                    else:
                        self.assertLess(16 - (went - len(came)), parts)
                    came += pipe.read(taken)
                self.assertEqual(came, [n % 256 for n in range(len(came))], (parts, taken))

    def test_drawn_parts_beside_a_list(self):
        draws = Draws(8)
        pipe, inside, met = Pipe(), [], set()
        for turn in range(3000):
            if draws.below(2):
                cells = [draws.below(256) for k in range(draws.one_of((0, 1, 2, 5, 8, 15, 16, 17, 20)))]
                given = list(cells)
                told = outcome(pipe.write, cells)
                self.assertEqual(cells, given)
                if len(cells) > 16:
                    want = refused("TooBig")
                elif len(inside) + len(cells) > 16:
                    want = refused("Again")
                else:
                    want = "told", len(cells)
                    inside += cells
            else:
                many = draws.one_of((-1, 0, 1, 2, 5, 8, 15, 16, 17, LONG, -LONG))
                told = outcome(pipe.read, many)
                if many < 0:
                    want = refused("TooBig")
                elif many > 0 and not inside:
                    want = refused("Again")
                else:
                    want = "told", inside[:many]
                    inside = inside[many:]
            self.assertEqual(told, want)
            met.add((want[0], want[1] if want[0] == "refused" else None, len(inside)))
        for size in (0, 16):
            self.assertIn(("told", None, size), met)
            self.assertIn(("refused", "Again", size), met)

    def test_cells_of_all_numbers(self):
        pipe = Pipe()
        for first in range(0, 256, 16):
            cells = list(range(first, first + 16))
            self.assertEqual((pipe.write(cells), pipe.read(16)), (16, cells))


class TestRead(unittest.TestCase):
    def test_at_most_so_many(self):
        cells = list(range(1, 11))
        for many in (1, 2, 9, 10, 11, 16, 17, 320, 1000, LONG):
            pipe = holding(cells)
            self.assertEqual(pipe.read(many), cells[:many])
            self.assertEqual(drained(pipe), cells[many:])

    def test_none(self):
        pipe = holding([1, 2])
        self.assertEqual((pipe.read(0), pipe.read(2), pipe.read(0)), ([], [1, 2], []))
        pipe.end_writing()
        self.assertEqual(pipe.read(0), [])

    def test_again_where_none_is_there(self):
        pipe = Pipe()
        for many in (1, 2, 16, 17, LONG):
            self.assertEqual(outcome(pipe.read, many), refused("Again"))
        pipe.write([])
        self.assertEqual(outcome(pipe.read, 1), refused("Again"))
        pipe.write([5])
        self.assertEqual(pipe.read(9), [5])
        self.assertEqual(outcome(pipe.read, 9), refused("Again"))

    def test_nothing_where_the_writing_end_is_not_open(self):
        pipe = holding([1, 2, 3])
        self.assertIsNone(pipe.end_writing())
        self.assertEqual([pipe.read(many) for many in (2, 2, 2, 0, LONG)], [[1, 2], [3], [], [], []])
        pipe = Pipe()
        pipe.end_writing()
        self.assertEqual([pipe.read(many) for many in (1, 0, 16)], [[], [], []])

    def test_too_big_below_nought(self):
        for cells in ([], [1, 2]):
            for ended in (False, True):
                pipe = holding(cells)
                if ended:
                    pipe.end_writing()
                for many in (-1, -2, -16, -LONG):
                    self.assertEqual(outcome(pipe.read, many), refused("TooBig"))
                self.assertEqual(drained(pipe), cells)


class TestWrite(unittest.TestCase):
    def test_so_many_at_once(self):
        for many in (0, 1, 15, 16):
            pipe = Pipe()
            self.assertEqual(pipe.write(list(range(many))), many)
            self.assertEqual(drained(pipe), list(range(many)))

    def test_too_big(self):
        for many in (17, 18, 32, 64):
            for there in (0, 1, 16):
                pipe = holding([9] * there)
                self.assertEqual(outcome(pipe.write, [1] * many), refused("TooBig"))
                self.assertEqual(drained(pipe), [9] * there)

    def test_again_where_there_is_not_room_for_all(self):
        for there in range(17):
            for many in range(17):
                pipe = holding([9] * there)
                if there + many > 16:
                    self.assertEqual(outcome(pipe.write, [1] * many), refused("Again"))
                    many = 0
                else:
                    self.assertEqual(pipe.write([1] * many), many)
                self.assertEqual(drained(pipe), [9] * there + [1] * many)

    def test_room_comes_back_by_reading(self):
        pipe = holding(list(range(16)))
        self.assertEqual(outcome(pipe.write, [16]), refused("Again"))
        self.assertEqual((pipe.read(3), pipe.write([16, 17, 18])), ([0, 1, 2], 3))
        self.assertEqual(outcome(pipe.write, [19]), refused("Again"))
        self.assertEqual(drained(pipe), list(range(3, 19)))

    def test_broken_where_the_reading_end_is_not_open(self):
        for there in (0, 1, 15, 16):
            pipe = holding([9] * there)
            self.assertIsNone(pipe.end_reading())
            for many in (0, 1, 15, 16):
                self.assertEqual(outcome(pipe.write, [1] * many), refused("Broken"))
            # More than a pipe ever has room for is told first.
            self.assertEqual(outcome(pipe.write, [1] * 17), refused("TooBig"))
            self.assertEqual(drained(pipe), [9] * there)

    def test_an_end_stays_as_it_is_when_the_other_one_is_closed(self):
        pipe = holding([1])
        pipe.end_writing()
        self.assertEqual(pipe.read(1), [1])
        pipe = holding([1])
        pipe.end_reading()
        self.assertEqual(pipe.read(1), [1])
        self.assertEqual(outcome(pipe.read, 1), refused("Again"))


class TestLists(unittest.TestCase):
    def test_cells_handed_in(self):
        pipe, given = Pipe(), [1, 2, 3]
        pipe.write(given)
        given[0] = 99
        given.append(98)
        self.assertEqual(pipe.read(1), [1])
        pipe.write(given)
        given.clear()
        self.assertEqual(pipe.read(16), [2, 3, 99, 2, 3, 98])
        self.assertEqual(given, [])

    def test_cells_told(self):
        for many in (0, 2, 5, 16):
            pipe = holding([1, 2, 3, 4, 5])
            told = pipe.read(many)
            told.insert(0, 99)
            told.append(98)
            self.assertEqual(drained(pipe), [1, 2, 3, 4, 5][many:])
            self.assertEqual(told, [99] + [1, 2, 3, 4, 5][:many] + [98])

    def test_no_two_lists_are_one_and_the_same(self):
        pipe = Pipe()
        pipe.end_writing()
        told = [pipe.read(many) for many in (0, 0, 1, 1)]
        self.assertEqual(len({id(one) for one in told}), 4)

    def test_what_was_told_is_handed_in(self):
        pipe = holding([1, 2, 3])
        told = pipe.read(2)
        self.assertEqual((pipe.write(told), told), (2, [1, 2]))
        self.assertEqual(drained(pipe), [3, 1, 2])

    def test_two_pipes(self):
        one, other = Pipe(), Pipe()
        one.write([1])
        one.end_reading()
        self.assertEqual(outcome(other.read, 1), refused("Again"))
        self.assertEqual((other.write([2]), drained(other), drained(one)), (1, [2], [1]))


if __name__ == "__main__":
    unittest.main()
