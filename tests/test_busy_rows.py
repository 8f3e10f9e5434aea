"""Point 14: busy rows counted, by their index and back."""

from math import factorial

from idealtwin.errors import InvalidNumber, InvalidRow, NotBusy
from idealtwin.rows import busy_count, busy_index, first_come, is_busy, last_come, nth_busy
from tests import reference
from tests.helpers import FOUR, THREE, TwinTest, all_rows, crowd, far_cells, small_lists, some_lists

CROWD_COUNT = 8 * 15 * 22 * 29 * 36 * 43 * 50 * factorial(53)
FAR_COUNT = (factorial(3) * factorial(2)) ** 10


class CountTest(TwinTest):

    def test_some_lists(self):
        self.assert_same(busy_count(2, FOUR), 4)
        self.assert_same(busy_count(2, THREE), 2)
        self.assert_same(busy_count(8, [(3, entry, 2) for entry in range(8)]), factorial(8))
        self.assert_same(busy_count(8, [(3, entry, entry) for entry in range(8)]), 1)

    def test_no_cells(self):
        self.assert_same(busy_count(2, []), 1)
        self.assert_same(nth_busy(2, [], 0), [])
        self.assert_same(busy_index(2, [], []), 0)
        self.assert_raises(InvalidNumber, None, nth_busy, 2, [], 1)

    def test_60_cells(self):
        self.assert_same(busy_count(8, crowd()), CROWD_COUNT)
        self.assert_same(busy_count(8, far_cells()), FAR_COUNT)


class ThereAndBackTest(TwinTest):

    def assert_numbered(self, size, cells):
        rows = reference.busy_rows(size, cells)
        self.assert_same(busy_count(size, cells), len(rows))
        self.assert_same([nth_busy(size, cells, index) for index in range(len(rows))], rows)
        self.assert_same([busy_index(size, cells, row) for row in rows], list(range(len(rows))))
        self.assert_raises(InvalidNumber, None, nth_busy, size, cells, len(rows))

    def test_the_first_output_counts_most(self):
        cells = [(0, 0, 0), (0, 1, 0), (0, 2, 1), (0, 3, 1)]
        rows = [[0, 1, 0, 1], [0, 1, 1, 0], [1, 0, 0, 1], [1, 0, 1, 0]]
        self.assert_same([nth_busy(4, cells, index) for index in range(4)], rows)
        turned = [(0, 0, 1), (0, 1, 1), (0, 2, 0), (0, 3, 0)]
        rows = [[0, 1, 0, 1], [1, 0, 0, 1], [0, 1, 1, 0], [1, 0, 1, 0]]
        self.assert_same([nth_busy(4, turned, index) for index in range(4)], rows)

    def test_all_small_lists(self):
        for cells in small_lists(2, 2):
            self.assert_numbered(2, cells)
        for cells in [cells for cells in small_lists(2, 3) if len(cells) == 5][:60]:
            self.assert_numbered(2, cells)

    def test_some_lists_of_size_3(self):
        for cells in some_lists(5, 40, 3, 3, 5):
            self.assert_numbered(3, cells)

    def test_other_rows_are_not_busy(self):
        for cells in small_lists(2, 2):
            busy = reference.busy_rows(2, cells)
            for row in all_rows(cells, 4):
                if row not in busy:
                    self.assert_raises(NotBusy, None, busy_index, 2, cells, row)
        self.assert_raises(NotBusy, None, busy_index, 2, THREE, [0, 10 ** 31 - 1, 1])

    def test_a_wrong_row_is_told_first(self):
        self.assert_raises(InvalidRow, ("index", 2), busy_index, 2, THREE, [0, 2, 0])
        self.assert_raises(InvalidRow, ("index", None), busy_index, 2, THREE, [0, 2])


class ManyCellsTest(TwinTest):

    def assert_there_and_back(self, cells, index):
        row = nth_busy(8, cells, index)
        self.assertIs(is_busy(8, cells, row), True)
        self.assert_same(busy_index(8, cells, row), index)
        return row

    def test_first_and_last(self):
        for cells, count in [(crowd(), CROWD_COUNT), (far_cells(), FAR_COUNT)]:
            self.assert_same(self.assert_there_and_back(cells, 0), first_come(8, cells))
            self.assert_same(self.assert_there_and_back(cells, count - 1), last_come(8, cells))
            for index in [count, count + 1, 2 * count, 10 ** 150]:
                self.assert_raises(InvalidNumber, None, nth_busy, 8, cells, index)

    def test_middle_ones(self):
        for cells, count in [(crowd(), CROWD_COUNT), (far_cells(), FAR_COUNT)]:
            rows = []
            for index in [1, 2, count // 3, count // 2 - 1, count // 2, count // 2 + 1, count - 2]:
                row = self.assert_there_and_back(cells, index)
                told = reference.choices(8, cells, row)
                self.assertTrue(all(told > before for before in rows))
                rows.append(told)

    def test_digits_of_the_index(self):
        self.assert_same(nth_busy(8, crowd(), CROWD_COUNT // 8 * 3), [1, 2, 3, 0, *range(4, 60)])
        self.assert_same(nth_busy(8, crowd(), 1), [*range(58), 59, 58])
        self.assert_same(nth_busy(8, crowd(), 5), [*range(57), 59, 58, 57])
        swapped = first_come(8, far_cells())
        swapped[56], swapped[58] = swapped[58], swapped[56]
        self.assert_same(nth_busy(8, far_cells(), 1), swapped)
