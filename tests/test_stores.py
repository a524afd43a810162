import unittest

from helper import LONG, Draws
from ownroom.errors import NoOwner
from ownroom.stores import Store

NOUGHTS = [0, 0, 0, 0, 0, 0, 0, 0]
RISING = [1, 2, 3, 4, 5, 6, 7, 255]


def taken_store(many, taken):
    store = Store(many)
    for n in range(taken):
        store.take()
    return store


def state(store, many):
    counts = [store.count(n) for n in range(many)]
    cells = [store.cells(n) if counts[n] else None for n in range(many)]
    return counts, cells, store.free()


class TestOrdinary(unittest.TestCase):
    def test_all_pages_are_free_at_first(self):
        store = Store(5)
        self.assertEqual(store.free(), 5)
        self.assertEqual([store.count(n) for n in range(5)], [0] * 5)

    def test_take_tells_the_least_free_page(self):
        store = Store(5)
        self.assertEqual([store.take() for n in range(5)], [0, 1, 2, 3, 4])
        self.assertIsNone(store.take())
        for n in (3, 1):
            store.less(n)
        self.assertEqual([store.take(), store.take(), store.take()], [1, 3, None])

    def test_a_taken_page_has_count_1_and_noughts(self):
        store = Store(3)
        n = store.take()
        self.assertEqual((store.count(n), store.cells(n)), (1, NOUGHTS))

    def test_a_page_taken_again_has_count_1_and_noughts(self):
        store = taken_store(3, 3)
        store.put(1, RISING)
        store.more(1)
        store.less(1)
        store.less(1)
        self.assertEqual(store.take(), 1)
        self.assertEqual((store.count(1), store.cells(1)), (1, NOUGHTS))

    def test_more_and_less_count_owners(self):
        store = taken_store(3, 2)
        seen = []
        for deed in (store.more, store.more, store.less, store.more, store.less, store.less):
            deed(1)
            seen.append(store.count(1))
        self.assertEqual(seen, [2, 3, 2, 3, 2, 1])
        self.assertEqual(store.count(0), 1)

    def test_a_page_is_free_with_its_last_owner_and_not_before(self):
        store = taken_store(2, 2)
        store.more(0)
        store.put(0, RISING)
        store.less(0)
        self.assertEqual((store.count(0), store.free(), store.cells(0)), (1, 0, RISING))
        self.assertIsNone(store.take())
        store.less(0)
        self.assertEqual((store.count(0), store.free()), (0, 1))
        self.assertEqual(store.take(), 0)

    def test_free_tells_how_many_are_free(self):
        store = Store(3)
        seen = [store.free()]
        for deed in (store.take, store.take, lambda: store.less(0), store.take, store.take, store.take):
            deed()
            seen.append(store.free())
        self.assertEqual(seen, [3, 2, 1, 2, 1, 0, 0])

    def test_put_gives_one_page_its_cells(self):
        store = taken_store(3, 3)
        store.put(1, RISING)
        self.assertEqual([store.cells(n) for n in range(3)], [NOUGHTS, RISING, NOUGHTS])
        store.put(1, NOUGHTS)
        self.assertEqual(store.cells(1), NOUGHTS)

    def test_put_leaves_the_count(self):
        store = taken_store(1, 1)
        store.more(0)
        store.put(0, RISING)
        self.assertEqual(store.count(0), 2)


class TestEdges(unittest.TestCase):
    def test_store_of_none(self):
        store = Store(0)
        self.assertIsNone(store.take())
        self.assertEqual((store.free(), store.count(0)), (0, 0))
        with self.assertRaises(NoOwner):
            store.cells(0)

    def test_store_of_one(self):
        store = Store(1)
        self.assertEqual([store.take(), store.take(), store.free()], [0, None, 0])
        store.less(0)
        self.assertEqual([store.free(), store.take()], [1, 0])

    def test_store_of_sixty_taken_whole(self):
        store = Store(60)
        self.assertEqual([store.take() for n in range(60)], list(range(60)))
        self.assertEqual((store.take(), store.free()), (None, 0))
        store.put(59, RISING)
        store.less(58)
        self.assertEqual((store.take(), store.cells(59), store.cells(58)), (58, RISING, NOUGHTS))

    def test_a_page_may_have_many_owners(self):
        store = taken_store(1, 1)
        for n in range(99):
            store.more(0)
        self.assertEqual(store.count(0), 100)
        for n in range(100):
            store.less(0)
        self.assertEqual(store.free(), 1)


class TestWrongInputs(unittest.TestCase):
    def setUp(self):
        self.store = taken_store(5, 4)
        for n in range(4):
            self.store.put(n, [n + 1] * 8)
        self.store.more(0)
        self.store.less(2)
        self.wrong = [2, 4, -1, -2, -4, -5, -6, 5, 6, 60, 1000, LONG, -LONG]

    def refused(self, deed, *args):
        before = state(self.store, 5)
        with self.subTest(args=args), self.assertRaises(NoOwner):
            deed(*args)
        self.assertEqual(state(self.store, 5), before)

    def test_more(self):
        for n in self.wrong:
            self.refused(self.store.more, n)

    def test_less(self):
        for n in self.wrong:
            self.refused(self.store.less, n)

    def test_cells(self):
        for n in self.wrong:
            self.refused(self.store.cells, n)

    def test_put(self):
        for n in self.wrong:
            self.refused(self.store.put, n, RISING)

    def test_count_tells_0(self):
        for n in self.wrong:
            with self.subTest(n=n):
                self.assertEqual(self.store.count(n), 0)

    def test_a_refused_put_leaves_nothing_for_the_next_take(self):
        self.refused(self.store.put, 2, RISING)
        self.assertEqual(self.store.take(), 2)
        self.assertEqual(self.store.cells(2), NOUGHTS)


class TestOwnLists(unittest.TestCase):
    def test_a_list_that_was_put_may_be_changed(self):
        store = taken_store(2, 2)
        handed = list(RISING)
        store.put(0, handed)
        store.put(1, handed)
        self.assertEqual(handed, RISING)
        handed[0] = 99
        handed.append(5)
        self.assertEqual((store.cells(0), store.cells(1)), (RISING, RISING))

    def test_a_list_that_was_told_may_be_changed(self):
        store = taken_store(1, 1)
        for cells in (NOUGHTS, RISING):
            store.put(0, cells)
            told = store.cells(0)
            told[3] = 77
            told.pop()
            self.assertEqual(store.cells(0), cells)

    def test_a_fresh_page_has_noughts_of_its_own(self):
        store = taken_store(2, 2)
        store.cells(0)[0] = 5
        self.assertEqual((store.cells(0), store.cells(1)), (NOUGHTS, NOUGHTS))

    def test_what_was_told_is_not_changed_later(self):
        store = taken_store(1, 1)
        told = store.cells(0)
        store.put(0, RISING)
        self.assertEqual(told, NOUGHTS)

    def test_two_lists_told_are_two(self):
        store = taken_store(2, 2)
        self.assertIsNot(store.cells(0), store.cells(0))
        first = store.cells(0)
        self.assertIsNot(first, store.cells(1))

    def test_what_was_told_may_be_handed_in_again(self):
        store = taken_store(2, 2)
        store.put(0, RISING)
        told = store.cells(0)
        store.put(1, told)
        store.put(0, told)
        told[0] = 9
        self.assertEqual((store.cells(0), store.cells(1)), (RISING, RISING))

    def test_put_more_and_less_tell_none(self):
        store = taken_store(1, 1)
        self.assertIsNone(store.put(0, RISING))
        self.assertIsNone(store.more(0))
        self.assertIsNone(store.less(0))
        self.assertIsNone(store.less(0))

    def test_two_stores_have_nothing_in_common(self):
        one = taken_store(3, 2)
        other = Store(3)
        self.assertEqual(other.free(), 3)
        self.assertEqual(other.take(), 0)
        one.put(0, RISING)
        one.more(0)
        self.assertEqual((other.cells(0), other.count(0)), (NOUGHTS, 1))


class TestRows(unittest.TestCase):
    """Long rows of deeds against a store told in a plain dict."""

    def test_rows_of_deeds(self):
        for seed in range(20):
            draws = Draws(seed)
            many = draws.below(9)
            store = Store(many)
            plain = {}
            for turn in range(300):
                self.one_deed(draws, store, plain, many)
                counts = [plain[n][0] if n in plain else 0 for n in range(many)]
                cells = [plain[n][1] if n in plain else None for n in range(many)]
                self.assertEqual(state(store, many), (counts, cells, many - len(plain)))

    def one_deed(self, draws, store, plain, many):
        deed = draws.one_of(("take", "take", "more", "less", "less", "put"))
        n = draws.below(many + 4) - 2
        if deed == "take":
            least = min([n for n in range(many) if n not in plain], default=None)
            self.assertEqual(store.take(), least)
            if least is not None:
                plain[least] = (1, NOUGHTS)
        elif n not in plain:
            with self.assertRaises(NoOwner):
                store.put(n, RISING) if deed == "put" else getattr(store, deed)(n)
        elif deed == "put":
            cells = [draws.below(256) for k in range(8)]
            store.put(n, cells)
            plain[n] = (plain[n][0], cells)
        else:
            getattr(store, deed)(n)
            plain[n] = (plain[n][0] + (1 if deed == "more" else -1), plain[n][1])
            if plain[n][0] == 0:
                del plain[n]


if __name__ == "__main__":
    unittest.main()
