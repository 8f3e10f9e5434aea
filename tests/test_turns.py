"""Points 5 and 15: cells, rows and plans turned about, and pressed rows."""

from idealtwin.errors import Impossible, InvalidCrossings, InvalidSlot
from idealtwin.rows import is_cells, is_row
from idealtwin.turns import is_pressed, turned_cells, turned_indices, turned_plan, turned_row, unpressed
from tests import reference
from tests.helpers import (
    FOUR, THREE, TwinTest, all_rows, crowd, far_cells, far_row, small_lists, some_lists, some_row,
)

LAST = 10 ** 31 - 1


class TurnedTest(TwinTest):

    def assert_turned(self, size, cells, row, crossings, last):
        """Compare with the reference, then turn about once more, which gives what there was."""
        new_cells, new_row, indices, plan = reference.turned(cells, row, crossings, last)
        self.assert_same(turned_cells(size, cells, row, last), new_cells)
        self.assert_same(turned_row(size, cells, row, last), new_row)
        self.assert_same(turned_indices(size, cells, row), indices)
        self.assert_same(turned_plan(size, cells, row, crossings, last), plan)
        self.assertTrue(is_cells(size, new_cells) and is_row(size, new_cells, new_row))
        self.assert_same(turned_cells(size, new_cells, new_row, last), cells)
        self.assert_same(turned_row(size, new_cells, new_row, last), row)
        back = turned_indices(size, new_cells, new_row)
        self.assert_same([indices[index] for index in back], list(range(len(cells))))
        return plan

    def test_some_rows(self):
        self.assert_same(turned_cells(2, THREE, [0, 1, 1], 1), [(0, 0, 1), (0, 1, 1), (1, 0, 0)])
        self.assert_same(turned_row(2, THREE, [0, 1, 1], 1), [1, 0, 1])
        self.assert_same(turned_indices(2, THREE, [0, 1, 1]), [1, 2, 0])
        self.assert_same(turned_plan(2, THREE, [0, 1, 1], [0, 0, 1], 1), [1, 0, 1])
        self.assert_same(turned_cells(2, FOUR, [0, 2, 1], 5), [(3, 0, 1), (4, 0, 0), (5, 0, 0)])
        self.assert_same(turned_row(2, FOUR, [0, 2, 1], 5), [5, 4, 5])
        self.assert_same(turned_indices(2, FOUR, [0, 2, 1]), [1, 2, 0])
        self.assert_same(turned_plan(2, FOUR, [0, 2, 1], [0, 4, 5], 5), [1, 0, 5])

    def test_cells_that_leave_in_one_slot_ascend_by_their_outputs(self):
        cells = [(0, 0, 2), (0, 1, 0), (0, 2, 1)]
        self.assert_same(turned_indices(3, cells, [3, 3, 3]), [1, 2, 0])
        self.assert_same(turned_cells(3, cells, [3, 3, 3], 3), [(0, 0, 1), (0, 1, 2), (0, 2, 0)])

    def test_no_cells(self):
        for last in (0, 7, 10 ** 30, LAST):
            self.assert_same(turned_cells(2, [], [], last), [])
            self.assert_same(turned_row(2, [], [], last), [])
            self.assert_same(turned_plan(2, [], [], [], last), [])
        self.assert_same(turned_indices(2, [], []), [])

    def test_all_small_rows(self):
        for cells in small_lists(2, 2):
            for row in all_rows(cells, 3):
                for last in (3, 4, 9):
                    self.assert_turned(2, cells, row, row, last)

    def test_some_larger_rows(self):
        for seed, cells in enumerate(some_lists(6, 80, 5, 9, 30)):
            row = some_row(seed, cells, 7)
            slots = [cell[0] for cell in cells]
            crossings = [slot + (leaving - slot) // 2 for slot, leaving in zip(slots, row)]
            for last in (max(row, default=0), 100):
                plan = self.assert_turned(5, cells, row, crossings, last)
                new_cells = turned_cells(5, cells, row, last)
                back = turned_plan(5, new_cells, turned_row(5, cells, row, last), plan, last)
                self.assert_same(back, crossings)

    def test_60_and_far_cells(self):
        row = list(range(60))
        self.assert_turned(8, crowd(), row, row, 59)
        self.assert_turned(8, crowd(), row, row, 10 ** 30 - 1)
        row = far_row([0, 1, 0, 2, 1, 0])
        for last in (9 * 10 ** 29 + 2, 10 ** 30 - 1):
            self.assert_turned(8, far_cells(), row, row, last)

    def test_long_stays(self):
        cells = [(0, 0, 0), (5, 1, 0), (10 ** 30 - 1, 0, 1)]
        row = [LAST - 1, LAST, LAST - 10 ** 30 + 1]
        crossings = [0, LAST, 10 ** 30]
        self.assert_same(turned_cells(2, cells, row, LAST), [(0, 0, 1), (1, 0, 0), (10 ** 30 - 1, 1, 0)])
        self.assert_same(turned_row(2, cells, row, LAST), [LAST - 5, LAST, LAST - 10 ** 30 + 1])
        self.assert_same(turned_indices(2, cells, row), [1, 0, 2])
        self.assert_same(turned_plan(2, cells, row, crossings, LAST), [0, LAST, LAST - 10 ** 30])

    def test_the_indices_are_the_same_for_all_last_slots(self):
        self.assert_same(turned_indices(2, [(0, 0, 0), (0, 1, 1)], [0, LAST]), [1, 0])
        self.assert_same(turned_indices(2, [(0, 0, 0), (0, 1, 1)], [LAST, 0]), [0, 1])


class ImpossibleTest(TwinTest):

    def assert_impossible(self, cells, row, last):
        self.assert_raises(Impossible, None, turned_cells, 2, cells, row, last)
        self.assert_raises(Impossible, None, turned_row, 2, cells, row, last)
        self.assert_raises(Impossible, None, turned_plan, 2, cells, row, [cell[0] for cell in cells], last)

    def assert_possible(self, cells, row, last):
        crossings = [cell[0] for cell in cells]
        expected = reference.turned(cells, row, crossings, last)
        self.assert_same(turned_cells(2, cells, row, last), expected[0])
        self.assert_same(turned_row(2, cells, row, last), expected[1])
        self.assert_same(turned_plan(2, cells, row, crossings, last), expected[3])

    def test_a_last_slot_ahead_of_a_leaving_slot(self):
        for row, last in [([0, 1, 1], 0), ([7, 1, 1], 6), ([0, 9, 1], 8), ([0, 1, 8], 7), ([0, 1, LAST], LAST - 1)]:
            with self.subTest(row=row, last=last):
                self.assert_impossible(THREE, row, last)
        for row, last in [([0, 1, 1], 1), ([7, 1, 1], 7), ([0, 9, 1], 9), ([0, 1, 8], 8), ([0, 1, 8], 9)]:
            with self.subTest(row=row, last=last):
                self.assert_possible(THREE, row, last)

    def test_a_cell_in_slot_10_to_the_30(self):
        for row, least in [([0, 1, 1], 0), ([3, 4, 2], 2), ([5, 10 ** 30, 10 ** 29], 5)]:
            with self.subTest(row=row):
                self.assert_possible(THREE, row, least + 10 ** 30 - 1)
                self.assert_impossible(THREE, row, least + 10 ** 30)
                self.assert_impossible(THREE, row, LAST)

    def test_far_apart_leaving_slots(self):
        cells = [(0, 0, 0), (0, 1, 1)]
        self.assert_possible(cells, [0, 10 ** 30 - 1], 10 ** 30 - 1)
        self.assert_impossible(cells, [0, 10 ** 30], 10 ** 30 - 1)
        self.assert_impossible(cells, [0, 10 ** 30], 10 ** 30)
        self.assert_possible(cells, [1, 10 ** 30], 10 ** 30)

    def test_a_last_slot_ahead_of_a_crossing_slot(self):
        for crossings in ([2, 0, 1], [0, 2, 1], [0, 0, 2], [0, 0, LAST]):
            with self.subTest(crossings=crossings):
                self.assert_raises(Impossible, None, turned_plan, 2, THREE, [0, 1, 1], crossings, 1)
        self.assert_same(turned_plan(2, THREE, [0, 1, 1], [2, 0, 1], 2), [2, 1, 0])

    def test_wrong_arguments_are_told_first(self):
        self.assert_raises(InvalidSlot, None, turned_cells, 2, THREE, [0, 1, 1], -1)
        self.assert_raises(InvalidSlot, None, turned_row, 2, THREE, [0, 1, 1], 10 ** 31)
        self.assert_raises(InvalidCrossings, ("index", 2), turned_plan, 2, THREE, [0, 1, 1], [0, 2, 0], 0)


class PressedTest(TwinTest):

    def test_some_rows(self):
        for cells, row, told in [
            (THREE, [0, 1, 1], None), (THREE, [1, 0, 1], (1, 0)), (THREE, [0, 2, 1], (2, 1)),
            (THREE, [1, 2, 1], (1, 0)), (FOUR, [0, 1, 2], (1, 1)), (FOUR, [1, 0, 2], (2, 0)), ([(0, 0, 0), (1, 0, 1)], [1, 1], None),
        ]:
            with self.subTest(row=row):
                self.assert_same(unpressed(2, cells, row), told)
                self.assertIs(is_pressed(2, cells, row), told is None)

    def test_no_cells(self):
        self.assertIs(unpressed(3, [], []), None)
        self.assertIs(is_pressed(3, [], []), True)

    def test_the_least_slot_and_then_the_least_input(self):
        cells = [(0, 0, 0), (0, 1, 1), (1, 0, 1)]
        self.assert_same(unpressed(2, cells, [2, 2, 1]), (1, 1))
        self.assert_same(unpressed(2, cells, [3, 0, 1]), (2, 0))
        self.assert_same(unpressed(2, [(0, 0, 0), (0, 1, 1)], [1, 1]), (1, 0))
        self.assert_same(unpressed(2, [(0, 0, 0), (0, 1, 1)], [0, 1]), (1, 1))

    def test_an_input_may_be_idle_between_stays(self):
        self.assertIs(is_pressed(1, [(0, 0, 0), (9, 0, 0)], [0, 9]), True)
        self.assert_same(unpressed(1, [(0, 0, 0), (9, 0, 0)], [0, 10]), (10, 0))
        self.assert_same(unpressed(1, [(0, 0, 0), (9, 0, 0)], [8, 9]), (1, 0))

    def test_long_stays(self):
        cells = [(0, 0, 0), (0, 1, 0), (1, 0, 1), (10 ** 30 - 1, 1, 1)]
        self.assert_same(unpressed(2, cells, [LAST, 0, 1, LAST]), (2, 0))
        self.assert_same(unpressed(2, cells, [0, 10 ** 30, 1, LAST]), (1, 1))
        self.assert_same(unpressed(2, cells, [0, LAST, LAST, LAST - 1]), (1, 1))
        self.assert_same(unpressed(2, cells, [1, 0, 1, LAST]), (10 ** 30, 1))
        self.assertIs(is_pressed(2, cells, [1, 0, 1, LAST]), False)
        self.assertIs(is_pressed(2, cells, [1, 0, 1, 10 ** 30 - 1]), True)

    def test_60_and_far_cells(self):
        stream = [(slot, 0, 0) for slot in range(60)]
        self.assertIs(is_pressed(1, stream, list(range(60))), True)
        self.assert_same(unpressed(1, stream, [LAST, *range(1, 60)]), (60, 0))
        self.assertIs(is_pressed(8, far_cells(), far_row([0, 1, 0, 2, 1, 0])), False)
        self.assert_same(unpressed(8, far_cells(), far_row([0, 1, 0, 2, 1, 0])), (1, 1))

    def test_all_small_rows(self):
        for cells in small_lists(2, 2):
            for row in all_rows(cells, 4):
                told = reference.unpressed(2, cells, row)
                self.assert_same(unpressed(2, cells, row), told)
                self.assertIs(is_pressed(2, cells, row), told is None)

    def test_some_larger_rows(self):
        for seed, cells in enumerate(some_lists(7, 150, 4, 6, 20)):
            for slack in (1, 2, 6):
                row = some_row(seed, cells, slack)
                self.assert_same(unpressed(4, cells, row), reference.unpressed(4, cells, row))
