import unittest

from helper import Draws
from ownroom.tables import Table


def table_of(pages):
    table = Table()
    for page in pages:
        table.lay(page, ("frame", page))
    return table


class TestOrdinary(unittest.TestCase):
    def test_a_new_table_is_empty(self):
        table = Table()
        self.assertEqual((table.pages(), table.steps()), ([], 0))
        self.assertEqual([table.get(page) for page in range(64)], [None] * 64)

    def test_get_tells_what_was_laid(self):
        table = Table()
        table.lay(5, ("frame", 3))
        table.lay(6, ("blank",))
        table.lay(40, ())
        self.assertEqual([table.get(page) for page in (5, 6, 40)], [("frame", 3), ("blank",), ()])
        self.assertIsInstance(table.get(5), tuple)
        self.assertIsNone(table.get(4))
        self.assertIsNone(table.get(41))

    def test_an_empty_tuple_is_an_entry(self):
        table = Table()
        table.lay(40, ())
        self.assertEqual((table.pages(), table.steps()), ([40], 1))

    def test_laying_over_an_entry(self):
        table = table_of([9])
        table.lay(9, ("slot", 1))
        self.assertEqual((table.get(9), table.pages(), table.steps()), (("slot", 1), [9], 1))

    def test_clear(self):
        table = table_of([8, 9])
        table.clear(8)
        self.assertIsNone(table.get(8))
        self.assertEqual((table.get(9), table.pages()), (("frame", 9), [9]))

    def test_clear_of_a_page_without_an_entry_changes_nothing(self):
        table = table_of([8, 9])
        for page in (0, 10, 15, 16, 63):
            table.clear(page)
        self.assertEqual((table.pages(), table.steps()), ([8, 9], 1))
        table.clear(8)
        table.clear(8)
        self.assertEqual((table.pages(), table.steps()), ([9], 1))

    def test_an_entry_may_be_laid_where_one_was_cleared(self):
        table = table_of([8])
        table.clear(8)
        table.lay(8, ("blank",))
        self.assertEqual((table.get(8), table.pages(), table.steps()), (("blank",), [8], 1))

    def test_lay_and_clear_tell_none(self):
        table = Table()
        self.assertIsNone(table.lay(3, ("blank",)))
        self.assertIsNone(table.lay(3, ("frame", 0)))
        self.assertIsNone(table.clear(3))
        self.assertIsNone(table.clear(3))

    def test_pages_rise_however_they_were_laid(self):
        self.assertEqual(table_of([50, 3, 63, 8, 2, 0, 7]).pages(), [0, 2, 3, 7, 8, 50, 63])


class TestOwnLists(unittest.TestCase):
    def test_pages_is_a_new_list_each_time(self):
        table = table_of([1, 2])
        told = table.pages()
        self.assertIsNot(told, table.pages())
        told.append(3)
        told[0] = 60
        self.assertEqual((table.pages(), table.get(3), table.get(1)), ([1, 2], None, ("frame", 1)))

    def test_pages_that_were_told_stay(self):
        table = table_of([1, 2])
        told = table.pages()
        table.lay(0, ("blank",))
        table.clear(2)
        self.assertEqual(told, [1, 2])

    def test_lists_in_an_entry_are_not_shared(self):
        table = Table()
        cells = [1, 2]
        table.lay(4, ("kept", cells, {"a": [cells]}))
        cells.append(3)
        table.get(4)[1].append(4)
        table.get(4)[2]["a"][0].append(5)
        told = table.get(4)
        self.assertEqual(told, ("kept", [1, 2], {"a": [[1, 2]]}))
        self.assertIsNot(told[1], table.get(4)[1])
        self.assertIsNot(told[1], told[2]["a"][0])

    def test_what_was_told_may_be_laid_again(self):
        table = table_of([1])
        table.lay(2, table.get(1))
        self.assertEqual(table.get(2), ("frame", 1))

    def test_two_tables_have_nothing_in_common(self):
        one = table_of([1, 9])
        other = Table()
        self.assertEqual((other.pages(), other.steps(), other.get(1)), ([], 0, None))
        other.lay(1, ("blank",))
        other.clear(9)
        self.assertEqual((one.get(1), one.pages(), one.steps()), (("frame", 1), [1, 9], 2))


class TestEdges(unittest.TestCase):
    def test_the_pages_at_the_edges(self):
        table = Table()
        for page, steps in ((0, 1), (7, 1), (8, 2), (63, 3)):
            table.lay(page, ("frame", page))
            self.assertEqual(table.steps(), steps)
        self.assertEqual([table.get(page) for page in (0, 7, 8, 63)],
                         [("frame", 0), ("frame", 7), ("frame", 8), ("frame", 63)])
        self.assertEqual([table.get(page) for page in (1, 6, 9, 62)], [None] * 4)
        self.assertEqual(table.pages(), [0, 7, 8, 63])

    def test_steps_with_none_one_and_eight_of_the_same_eight(self):
        table = Table()
        self.assertEqual(table.steps(), 0)
        for page in range(16, 24):
            table.lay(page, ("blank",))
            self.assertEqual(table.steps(), 1)

    def test_steps_with_entries_in_all_eights(self):
        self.assertEqual(table_of(range(3, 64, 8)).steps(), 8)
        table = table_of(range(64))
        self.assertEqual((table.steps(), table.pages()), (8, list(range(64))))

    def test_steps_falls_with_the_last_entry_of_an_eight(self):
        table = table_of(range(64))
        for page in range(64):
            table.clear(page)
            self.assertEqual(table.steps(), 8 - (page + 1) // 8)
        self.assertEqual(table.pages(), [])


class TestRows(unittest.TestCase):
    """Long rows of deeds against a plain dict."""

    def test_rows_of_deeds(self):
        for seed in range(20):
            draws = Draws(seed)
            table = Table()
            plain = {}
            for turn in range(200):
                page = draws.below(64)
                if draws.below(20) < seed:
                    table.clear(page)
                    plain.pop(page, None)
                else:
                    plain[page] = ("slot", draws.below(60))
                    table.lay(page, plain[page])
                self.assertEqual([table.get(page) for page in range(64)], [plain.get(page) for page in range(64)])
                self.assertEqual(table.pages(), sorted(plain))
                self.assertEqual(table.steps(), len({page // 8 for page in plain}))


if __name__ == "__main__":
    unittest.main()
