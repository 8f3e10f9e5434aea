"""Points 5 and 13: busy rows, stays, first and last come, busy slots and waiting counts."""

from idealtwin.rows import busy_slots, first_come, is_busy, last_come, resting, stays, waiting_count
from tests import reference
from tests.helpers import (
    FOUR, THREE, TwinTest, all_rows, crowd, far_cells, far_row, small_lists, some_lists, some_row,
)

LAST = 10 ** 31 - 1


class BusyTest(TwinTest):

    def test_some_rows(self):
        for cells, row, told in [
            (THREE, [0, 1, 1], None), (THREE, [1, 0, 1], None), (THREE, [0, 2, 1], (1, 0)), (THREE, [1, 2, 1], (0, 0)),
            (THREE, [0, 1, 2], (1, 1)), (FOUR, [0, 1, 2], None), (FOUR, [0, 1, 3], (2, 0)), (FOUR, [1, 2, 3], (0, 0)),
        ]:
            with self.subTest(row=row):
                self.assert_same(resting(2, cells, row), told)
                self.assertIs(is_busy(2, cells, row), told is None)

    def test_no_cells(self):
        self.assertIs(resting(3, [], []), None)
        self.assertIs(is_busy(3, [], []), True)

    def test_an_output_rests_while_it_is_idle(self):
        cells = [(0, 0, 0), (5, 0, 0), (5, 1, 0), (9, 1, 1)]
        self.assertIs(is_busy(2, cells, [0, 6, 5, 9]), True)
        self.assert_same(resting(2, cells, [0, 6, 5, 10]), (9, 1))

    def test_the_least_slot_and_then_the_least_output(self):
        cells = [(0, 0, 1), (0, 1, 0), (1, 0, 0), (1, 1, 1)]
        self.assert_same(resting(2, cells, [2, 3, 1, 1]), (0, 0))
        self.assert_same(resting(2, cells, [2, 0, 3, 3]), (0, 1))
        self.assert_same(resting(2, cells, [0, 3, 2, 4]), (0, 0))
        self.assert_same(resting(2, cells, [0, 0, 3, 2]), (1, 0))
        self.assert_same(resting(2, cells, [0, 0, 1, 2]), (1, 1))

    def test_another_output_does_not_send_for_it(self):
        self.assert_same(resting(2, [(0, 0, 0), (0, 1, 1)], [1, 0]), (0, 0))
        self.assert_same(resting(2, [(0, 0, 1), (0, 1, 0)], [1, 0]), (0, 1))

    def test_long_stays(self):
        cells = [(0, 0, 0), (0, 1, 0), (1, 0, 1)]
        self.assert_same(resting(2, cells, [LAST, 10 ** 30, 1]), (0, 0))
        self.assert_same(resting(2, cells, [LAST, 0, 1]), (1, 0))
        self.assert_same(resting(2, cells, [1, 0, 10 ** 30]), (1, 1))
        self.assert_same(resting(2, [(10 ** 29, 0, 0), (10 ** 30 - 1, 0, 1)], [10 ** 29, LAST]), (10 ** 30 - 1, 1))
        self.assertIs(is_busy(2, cells, [LAST, 0, 1]), False)

    def test_far_cells(self):
        busy = far_row([2, 0, 1, 1, 0, 0])
        self.assertIs(resting(8, far_cells(), busy), None)
        self.assertIs(is_busy(8, far_cells(), busy), True)
        self.assert_same(resting(8, far_cells(), far_row([0, 1, 0, 3, 1, 0])), (2, 0))
        self.assert_same(resting(8, far_cells(), busy[:-1] + [LAST]), (9 * 10 ** 29, 7))

    def test_one_output_that_never_rests_for_60_cells(self):
        row = first_come(8, crowd())
        self.assertIs(is_busy(8, crowd(), row), True)
        self.assert_same(resting(8, crowd(), row[:-1] + [60]), (59, 5))
        self.assert_same(resting(8, crowd(), [60] + row[1:]), (0, 5))

    def test_all_small_rows(self):
        for cells in small_lists(2, 2):
            for row in all_rows(cells, 4):
                told = reference.resting(2, cells, row)
                self.assert_same(resting(2, cells, row), told)
                self.assertIs(is_busy(2, cells, row), told is None)

    def test_some_larger_rows(self):
        for seed, cells in enumerate(some_lists(1, 150, 4, 5, 12)):
            for slack in (1, 2, 6):
                row = some_row(seed, cells, slack)
                self.assert_same(resting(4, cells, row), reference.resting(4, cells, row))


class StaysTest(TwinTest):

    def test_both_ends_are_counted(self):
        self.assert_same(stays(2, THREE, [0, 2, 1]), [1, 3, 1])
        self.assert_same(stays(2, THREE, [0, 1, 1]), [1, 2, 1])
        self.assert_same(stays(2, [], []), [])

    def test_long_ones(self):
        cells = [(0, 0, 0), (0, 1, 0), (10 ** 30 - 1, 0, 0)]
        self.assert_same(stays(2, cells, [LAST, 10 ** 30 - 1, 10 ** 30]), [10 ** 31, 10 ** 30, 2])

    def test_some_larger_rows(self):
        for seed, cells in enumerate(some_lists(2, 50, 5, 6, 20)):
            row = some_row(seed, cells, 5)
            lengths = [sum(1 for slot in range(cell[0], leaving + 1)) for cell, leaving in zip(cells, row)]
            self.assert_same(stays(5, cells, row), lengths)


class FirstAndLastTest(TwinTest):

    def test_some_rows(self):
        self.assert_same([first_come(2, THREE), last_come(2, THREE)], [[0, 1, 1], [1, 0, 1]])
        self.assert_same([first_come(2, FOUR), last_come(2, FOUR)], [[0, 1, 2], [2, 0, 1]])
        self.assert_same([first_come(2, []), last_come(2, [])], [[], []])

    def test_cells_in_one_slot(self):
        cells = [(3, entry, 1) for entry in range(5)] + [(4, 0, 1), (4, 2, 0)]
        self.assert_same(first_come(5, cells), [3, 4, 5, 6, 7, 8, 4])
        self.assert_same(last_come(5, cells), [8, 7, 6, 5, 3, 4, 4])

    def test_a_gap_between_cells(self):
        cells = [(0, 0, 0), (0, 1, 0), (2, 0, 0), (7, 0, 0), (7, 1, 0)]
        self.assert_same(first_come(2, cells), [0, 1, 2, 7, 8])
        self.assert_same(last_come(2, cells), [1, 0, 2, 8, 7])

    def test_60_cells(self):
        self.assert_same(first_come(8, crowd()), list(range(60)))
        self.assert_same(last_come(8, crowd()), reference.simulated(8, crowd(), max))

    def test_far_cells(self):
        self.assert_same(first_come(8, far_cells()), far_row([0, 1, 0, 2, 1, 0]))
        self.assert_same(last_come(8, far_cells()), far_row([2, 1, 1, 0, 0, 0]))
        late = [(10 ** 30 - 1, entry, 0) for entry in range(8)]
        self.assert_same(first_come(8, late), [10 ** 30 - 1 + entry for entry in range(8)])
        self.assert_same(last_come(8, late), [10 ** 30 + 6 - entry for entry in range(8)])

    def test_small_lists(self):
        for cells in small_lists(2, 3):
            self.assert_same(first_come(2, cells), reference.simulated(2, cells, min))
            self.assert_same(last_come(2, cells), reference.simulated(2, cells, max))

    def test_some_larger_lists(self):
        for cells in some_lists(3, 150, 5, 9, 40):
            for row, pick in [(first_come(5, cells), min), (last_come(5, cells), max)]:
                self.assert_same(row, reference.simulated(5, cells, pick))
                self.assertIs(is_busy(5, cells, row), True)


class BusySlotsTest(TwinTest):

    def test_some_outputs(self):
        self.assert_same([busy_slots(2, FOUR, 0), busy_slots(2, FOUR, 1)], [[0, 1, 2], []])
        self.assert_same([busy_slots(2, THREE, 0), busy_slots(2, THREE, 1)], [[0, 1], [1]])
        self.assert_same(busy_slots(1, [(10 ** 29, 0, 0)], 0), [10 ** 29])
        self.assert_same([busy_slots(8, [], outlet) for outlet in range(8)], [[]] * 8)

    def test_60_and_far_cells(self):
        self.assert_same(busy_slots(8, crowd(), 5), list(range(60)))
        self.assert_same(busy_slots(8, crowd(), 4), [])
        self.assert_same(busy_slots(8, far_cells(), 0), far_row([0, 1, 2]))
        self.assert_same(busy_slots(8, far_cells(), 4), far_row([0, 1]))
        self.assert_same(busy_slots(8, far_cells(), 7), far_row([0]))
        self.assert_same(busy_slots(8, far_cells(), 1), [])

    def test_the_same_for_all_busy_rows(self):
        for cells in small_lists(2, 2):
            for row in reference.busy_rows(2, cells):
                for outlet in range(2):
                    own = sorted(leaving for cell, leaving in zip(cells, row) if cell[2] == outlet)
                    self.assert_same(busy_slots(2, cells, outlet), own)

    def test_some_larger_lists(self):
        for cells in some_lists(4, 60, 5, 9, 40):
            row = reference.simulated(5, cells, max)
            for outlet in range(5):
                own = sorted(leaving for cell, leaving in zip(cells, row) if cell[2] == outlet)
                self.assert_same(busy_slots(5, cells, outlet), own)


class WaitingCountTest(TwinTest):

    def test_some_slots(self):
        self.assert_same([waiting_count(2, FOUR, 0, slot) for slot in range(4)], [2, 2, 1, 0])
        self.assert_same([waiting_count(2, FOUR, 1, slot) for slot in range(4)], [0, 0, 0, 0])
        self.assert_same([waiting_count(2, [], 1, slot) for slot in (0, 10 ** 30, LAST)], [0, 0, 0])

    def test_this_slot_is_included_and_those_behind_are_not(self):
        cells = [(3, 0, 0), (3, 1, 0), (4, 0, 0), (8, 0, 0)]
        self.assert_same([waiting_count(2, cells, 0, slot) for slot in range(10)], [0, 0, 0, 2, 2, 1, 0, 0, 1, 0])

    def test_60_and_far_cells(self):
        counts = [7 * slot + 8 for slot in range(7)] + [60 - slot for slot in range(7, 61)]
        self.assert_same([waiting_count(8, crowd(), 5, slot) for slot in range(61)], counts)
        for number in range(10):
            slots = [10 ** 29 * number + offset for offset in range(4)]
            self.assert_same([waiting_count(8, far_cells(), 0, slot) for slot in slots], [3, 2, 1, 0])
            self.assert_same([waiting_count(8, far_cells(), 4, slot) for slot in slots], [2, 1, 0, 0])
        self.assert_same(waiting_count(8, far_cells(), 0, 10 ** 29 - 1), 0)
        self.assert_same(waiting_count(8, far_cells(), 0, LAST), 0)
        self.assert_same(waiting_count(1, [(10 ** 30 - 1, 0, 0)], 0, 10 ** 30 - 1), 1)

    def test_small_lists_in_all_busy_rows(self):
        for cells in small_lists(2, 2):
            for row in reference.busy_rows(2, cells):
                for outlet in range(2):
                    for slot in range(7):
                        expected = len(reference.waiting_at(cells, row, outlet, slot))
                        self.assert_same(waiting_count(2, cells, outlet, slot), expected)
