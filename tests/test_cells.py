"""Points 4, 5 and 13: which values are lists of cells, and which are rows for them."""

from idealtwin.errors import InvalidCells, InvalidSize
from idealtwin.rows import is_cells, is_row
from tests.helpers import FOUR, THREE, TwinTest, all_rows, crowd, far_cells, small_lists

NO_LISTS = [
    None, True, False, 0, 1, -1, 10 ** 200 - 1, "", "0:0:0", (), ((0, 0, 0),), {}, {"a": [(0, 0, 0)]}, tuple(THREE),
    InvalidSize("one"), InvalidCells(0),
]
NO_CELLS = [
    None, True, 0, "", "000", [0, 0, 0], {}, {"slot": 0, "entry": 0, "outlet": 0}, (), (0,), (0, 0), (0, 0, 0, 0),
    ((0, 0, 0),), [(0, 0, 0)], (0, 0, None), (None, 0, 0), (0, "0", 0), ([0], 0, 0), (0, (0,), 0), (0, 0, {}),
    (False, 0, 0), (0, False, 0), (0, 0, False), (True, 1, 1), (0, True, 0), (0, 0, True),
    (-1, 0, 0), (0, -1, 0), (0, 0, -1), (0, 2, 0), (0, 0, 2), (10 ** 30, 0, 0), (10 ** 199, 0, 0), InvalidSize("one"),
]


class IsCellsTest(TwinTest):

    def test_lists_of_cells(self):
        for value in [[], [(0, 0, 0)], THREE, FOUR, [(0, 1, 0), (1, 0, 0)], [(0, 0, 1), (0, 1, 0)]]:
            with self.subTest(value=value):
                self.assertIs(is_cells(2, value), True)
        self.assertIs(is_cells(8, far_cells()), True)

    def test_other_values(self):
        for value in NO_LISTS:
            with self.subTest(value=value):
                self.assertIs(is_cells(2, value), False)

    def test_items_that_are_no_cells(self):
        for item in NO_CELLS:
            with self.subTest(item=item):
                self.assertIs(is_cells(2, [item]), False)
                self.assertIs(is_cells(2, [(0, 0, 0), item]), False)
                self.assertIs(is_cells(2, [item, (5, 0, 0)]), False)

    def test_ascending_and_one_for_each_slot_and_input(self):
        for value in [
            [(0, 0, 0), (0, 0, 0)], [(0, 0, 0), (0, 0, 1)], [(0, 0, 1), (0, 0, 0)], [(0, 1, 0), (0, 0, 1)],
            [(1, 0, 0), (0, 1, 1)], [(0, 0, 0), (1, 0, 0), (1, 0, 1)], [(0, 0, 0), (1, 1, 0), (1, 0, 1)],
        ]:
            with self.subTest(value=value):
                self.assertIs(is_cells(2, value), False)

    def test_ports_less_than_the_size(self):
        for size in range(1, 9):
            for port in range(10):
                with self.subTest(size=size, port=port):
                    self.assertIs(is_cells(size, [(0, port, 0)]), port < size)
                    self.assertIs(is_cells(size, [(0, 0, port)]), port < size)

    def test_slots_to_the_last_one(self):
        last = 10 ** 30 - 1
        self.assertIs(is_cells(1, [(last - 1, 0, 0), (last, 0, 0)]), True)
        self.assertIs(is_cells(1, [(last, 0, 0), (last + 1, 0, 0)]), False)

    def test_at_most_60(self):
        for many, told in [(59, True), (60, True), (61, False), (1000, False)]:
            with self.subTest(many=many):
                self.assertIs(is_cells(1, [(slot, 0, 0) for slot in range(many)]), told)
        self.assertIs(is_cells(8, crowd()), True)
        self.assertIs(is_cells(8, [*crowd(), (8, 0, 0)]), False)

    def test_all_small_lists(self):
        for cells in small_lists(2, 2):
            self.assertIs(is_cells(2, cells), True)
            if len(cells) > 1:
                self.assertIs(is_cells(2, cells[::-1]), False)


class IsRowTest(TwinTest):

    def test_rows(self):
        for value in [[0, 1, 1], [1, 0, 1], [0, 2, 1], [7, 8, 7], [0, 1, 10 ** 31 - 1], [10 ** 31 - 1, 0, 1]]:
            with self.subTest(value=value):
                self.assertIs(is_row(2, THREE, value), True)

    def test_other_values(self):
        for value in [*NO_LISTS, [], [0], [0, 1], [0, 1, 1, 2], (0, 1, 1), {"0": 0, "1": 1, "2": 1}, "011"]:
            with self.subTest(value=value):
                self.assertIs(is_row(2, THREE, value), False)

    def test_wrong_items(self):
        for item in [None, True, False, "1", "", [1], (1,), {}, 10 ** 31, 10 ** 199, InvalidSize("one"), -1]:
            for at in range(3):
                with self.subTest(item=item, at=at):
                    value = [5, 6, 7]
                    value[at] = item
                    self.assertIs(is_row(2, THREE, value), False)

    def test_not_ahead_of_the_cell(self):
        self.assertIs(is_row(2, THREE, [0, 1, 0]), False)
        self.assertIs(is_row(1, [(10 ** 30 - 1, 0, 0)], [10 ** 30 - 2]), False)
        self.assertIs(is_row(1, [(10 ** 30 - 1, 0, 0)], [10 ** 30 - 1]), True)

    def test_one_cell_of_an_output_in_a_slot(self):
        self.assertIs(is_row(2, FOUR, [2, 1, 2]), False)
        self.assertIs(is_row(2, FOUR, [2, 2, 1]), False)
        self.assertIs(is_row(2, THREE, [0, 0, 1]), False)
        self.assertIs(is_row(2, [(0, 0, 0), (0, 1, 1), (1, 0, 0)], [1, 1, 1]), False)
        self.assertIs(is_row(2, [(0, 0, 0), (0, 1, 1), (1, 0, 0)], [0, 1, 1]), True)

    def test_no_cells(self):
        self.assertIs(is_row(2, [], []), True)
        for value in [None, (), [0], [None], {}, "", 0, False]:
            self.assertIs(is_row(2, [], value), False)

    def test_60_cells(self):
        self.assertIs(is_row(8, crowd(), list(range(7, 67))), True)
        self.assertIs(is_row(8, crowd(), list(range(7, 66)) + [7]), False)
        self.assertIs(is_row(8, crowd(), list(range(7, 68))), False)

    def test_wrong_cells_are_told(self):
        self.assert_raises(InvalidCells, ("index", 1), is_row, 2, [(0, 0, 0), (0, 0, 0)], [0, 1])
        self.assert_raises(InvalidCells, ("index", None), is_row, 2, None, None)
        self.assert_raises(InvalidSize, None, is_row, 9, None, None)
        self.assert_raises(InvalidSize, None, is_cells, True, None)

    def test_all_small_rows(self):
        for cells in small_lists(2, 2):
            rows = all_rows(cells, 3)
            for row in rows:
                self.assertIs(is_row(2, cells, row), True)
            for row in all_rows([(slot, 0, index) for index, (slot, _, _) in enumerate(cells)], 3):
                self.assertIs(is_row(2, cells, row), row in rows)
