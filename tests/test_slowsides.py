"""Points 8 and 17: clashes, bunches, and plans where one side does one cell in a slot."""

from itertools import product

from idealtwin import rows, turns
from idealtwin.errors import InvalidCells, InvalidNumber, InvalidRow, NotBusy, NotPressed
from idealtwin.slowsides import bunch_number, bunches, clash_number, clashes, plan_by_coming, plan_by_leaving
from tests import plan_reference as reference
from tests.helpers import (
    FOUR, THREE, TwinTest, all_rows, crowd, far_cells, far_row, small_lists, some_lists, some_row,
)

LAST = 10 ** 31 - 1


def coming(cells):
    return [cell[0] for cell in cells]


def few_cells():
    """Return the tuples (cells, row) of all rows with short stays of at most 4 cells."""
    lists = [cells for cells in small_lists(2, 2) + small_lists(2, 3)[::23] if len(cells) <= 4]
    return [(cells, row) for cells in lists for row in all_rows(cells, 3)]


class ClashesTest(TwinTest):

    def assert_clashes(self, size, cells, row):
        self.assert_same(clashes(size, cells, row), reference.crowded(cells, row, 1))
        self.assert_same(clash_number(size, cells, row), reference.greatest(cells, row, 1))

    def test_some_rows(self):
        for cells, row, told, number in [
            (THREE, [0, 1, 1], [(1, 1)], 2), (THREE, [0, 2, 1], [], 1), (FOUR, [0, 1, 2], [], 1),
            ([(0, 0, 0), (1, 0, 1), (2, 0, 2)], [2, 2, 2], [(2, 0)], 3),
            ([(0, 0, 0), (0, 1, 1), (1, 0, 1), (1, 1, 0)], [3, 4, 3, 4], [(3, 0), (4, 1)], 2),
            ([(0, 0, 0), (0, 1, 1), (1, 0, 1), (1, 1, 0)], [4, 4, 2, 2], [], 1),
            ([(0, 0, 0), (0, 1, 1), (1, 0, 1), (1, 1, 0)], [2, 3, 2, 3], [(2, 0), (3, 1)], 2),
            ([(0, 0, 1), (0, 1, 0), (1, 0, 0), (1, 1, 1)], [10, 9, 10, 9], [(9, 1), (10, 0)], 2),
        ]:
            with self.subTest(row=row):
                self.assert_same(clashes(3, cells, row), told)
                self.assert_same(clash_number(3, cells, row), number)

    def test_no_cells(self):
        self.assert_same(clashes(2, [], []), [])
        self.assert_same(clash_number(2, [], []), 0)

    def test_all_small_rows(self):
        for cells in small_lists(2, 2):
            for row in all_rows(cells, 3):
                self.assert_clashes(2, cells, row)

    def test_some_larger_rows(self):
        for seed, cells in enumerate(some_lists(21, 80, 6, 8, 40)):
            for slack in (1, 3, 9):
                self.assert_clashes(6, cells, some_row(seed, cells, slack))

    def test_60_and_far_cells(self):
        stream = [(slot, 3, slot % 8) for slot in range(60)]
        row = [100 + slot // 8 for slot in range(60)]
        self.assert_same(clashes(8, stream, row), [(slot, 3) for slot in range(100, 108)])
        self.assert_same(clash_number(8, stream, row), 8)
        self.assert_same(clashes(8, crowd(), list(range(60))), [])
        self.assert_clashes(8, far_cells(), far_row([0, 1, 0, 2, 1, 0]))
        early = [(0, 0, 0), (1, 0, 1), (10 ** 30 - 1, 1, 0), (10 ** 30 - 1, 2, 1)]
        self.assert_same(clashes(3, early, [LAST, LAST, LAST - 1, LAST - 1]), [(LAST, 0)])


class BunchesTest(TwinTest):

    def assert_bunches(self, size, cells):
        self.assert_same(bunches(size, cells), reference.crowded(cells, coming(cells), 2))
        self.assert_same(bunch_number(size, cells), reference.greatest(cells, coming(cells), 2))

    def test_some_cells(self):
        for cells, told, number in [
            (THREE, [(0, 0)], 2), (FOUR, [(0, 0)], 2), ([(0, 0, 0), (0, 1, 1), (1, 1, 1)], [], 1),
            ([(0, 0, 1), (0, 1, 1), (0, 2, 1)], [(0, 1)], 3),
            ([(0, 0, 1), (0, 1, 0), (0, 2, 1), (0, 3, 0)], [(0, 0), (0, 1)], 2),
            ([(9, 0, 1), (9, 1, 1), (10, 0, 0), (10, 1, 0)], [(9, 1), (10, 0)], 2),
        ]:
            with self.subTest(cells=cells):
                self.assert_same(bunches(4, cells), told)
                self.assert_same(bunch_number(4, cells), number)

    def test_no_cells(self):
        self.assert_same(bunches(2, []), [])
        self.assert_same(bunch_number(2, []), 0)

    def test_all_small_lists(self):
        for cells in small_lists(2, 3) + small_lists(3, 1):
            self.assert_bunches(3, cells)

    def test_some_larger_lists(self):
        for cells in some_lists(22, 100, 7, 9, 60):
            self.assert_bunches(7, cells)

    def test_60_and_far_cells(self):
        self.assert_same(bunches(8, crowd()), [(slot, 5) for slot in range(8)])
        self.assert_same(bunch_number(8, crowd()), 8)
        self.assert_bunches(8, far_cells())
        self.assert_same(bunch_number(8, far_cells()), 3)


class PlanByLeavingTest(TwinTest):

    def test_some_rows(self):
        for row, number, told in [
            ([0, 1, 1], 1, None), ([0, 1, 1], 2, [0, 1, 1]), ([0, 1, 1], 3, [0, 1, 1]), ([1, 0, 1], 1, [1, 0, 1]),
            ([0, 1, 1], 10 ** 40 - 1, [0, 1, 1]), ([0, 1, 1], 10 ** 200 - 1, [0, 1, 1]),
        ]:
            with self.subTest(row=row, number=number):
                self.assert_same(plan_by_leaving(2, THREE, row, number), told)

    def test_no_cells(self):
        self.assert_same(plan_by_leaving(2, [], [], 1), [])

    def test_against_all_plans(self):
        for cells, row in few_cells():
            plans = reference.all_plans(cells, row)
            for number in (1, 2, 3):
                if rows.is_busy(2, cells, row):
                    kept = [plan for plan in plans if reference.keeps_speeds(cells, plan, (number, 1))]
                    self.assertLessEqual(len(kept), 1)
                    self.assert_same(plan_by_leaving(2, cells, row, number), kept[0] if kept else None)
                else:
                    self.assert_raises(NotBusy, None, plan_by_leaving, 2, cells, row, number)

    def test_each_busy_row(self):
        for seed, cells in enumerate(some_lists(23, 60, 5, 7, 40)):
            for row in (rows.first_come(5, cells), rows.last_come(5, cells)):
                least = max(reference.greatest(cells, row, 1), 1)
                for number in range(1, least + 2):
                    told = row if number >= least else None
                    self.assert_same(plan_by_leaving(5, cells, row, number), told)
            row = some_row(seed, cells, 4)
            if not rows.is_busy(5, cells, row):
                self.assert_raises(NotBusy, None, plan_by_leaving, 5, cells, row, 1)

    def test_far_cells(self):
        row = rows.first_come(8, far_cells())
        self.assert_same(plan_by_leaving(8, far_cells(), row, 1), row)
        row[-1] += 10 ** 29
        self.assert_raises(NotBusy, None, plan_by_leaving, 8, far_cells(), row, 1)
        self.assert_raises(NotBusy, None, plan_by_leaving, 1, [(0, 0, 0)], [LAST], 1)

    def test_the_plan_is_a_new_list(self):
        row = [1, 0, 1]
        plan_by_leaving(2, THREE, row, 1).append("changed")
        self.assert_same(row, [1, 0, 1])


class PlanByComingTest(TwinTest):

    def test_some_rows(self):
        for row, number, told in [
            ([0, 1, 1], 1, None), ([0, 1, 1], 2, [0, 0, 1]), ([0, 1, 1], 3, [0, 0, 1]),
            ([0, 1, 1], 10 ** 200 - 1, [0, 0, 1]),
        ]:
            with self.subTest(row=row, number=number):
                self.assert_same(plan_by_coming(2, THREE, row, number), told)
        self.assert_same(plan_by_coming(2, [(0, 0, 0), (1, 0, 1)], [1, 1], 1), [0, 1])

    def test_no_cells(self):
        self.assert_same(plan_by_coming(2, [], [], 1), [])

    def test_against_all_plans(self):
        for cells, row in few_cells():
            plans = reference.all_plans(cells, row)
            for number in (1, 2, 3):
                if turns.is_pressed(2, cells, row):
                    kept = [plan for plan in plans if reference.keeps_speeds(cells, plan, (1, number))]
                    self.assertLessEqual(len(kept), 1)
                    self.assert_same(plan_by_coming(2, cells, row, number), kept[0] if kept else None)
                else:
                    self.assert_raises(NotPressed, None, plan_by_coming, 2, cells, row, number)

    def test_60_cells(self):
        stream = [(slot, entry, entry) for slot in range(7) for entry in range(8)]
        row = coming(stream)
        self.assert_same(plan_by_coming(8, stream, row, 1), row)
        row[55] += 1
        self.assert_raises(NotPressed, None, plan_by_coming, 8, stream, row, 1)
        single = [(0, 4, 7)] + [(slot, 4, slot % 7) for slot in range(1, 60)]
        self.assert_same(plan_by_coming(8, single, [59, *range(1, 60)], 1), list(range(60)))
        self.assert_raises(NotPressed, None, plan_by_coming, 8, single, [60, *range(1, 60)], 1)

    def test_busy_rows_turned_about(self):
        for cells in some_lists(25, 60, 5, 7, 40):
            for row in (rows.first_come(5, cells), rows.last_come(5, cells)):
                last = max(row, default=0)
                new_cells = turns.turned_cells(5, cells, row, last)
                new_row = turns.turned_row(5, cells, row, last)
                least = max(reference.greatest(cells, row, 1), 1)
                for number in range(1, least + 2):
                    told = coming(new_cells) if number >= least else None
                    self.assert_same(plan_by_coming(5, new_cells, new_row, number), told)

    def test_each_pressed_row(self):
        found = 0
        for cells in some_lists(24, 60, 3, 12, 36):
            row = []
            taken = set()
            for slot, entry, outlet in cells:
                leaving = slot
                while (leaving, outlet) in taken:
                    leaving += 1
                taken.add((leaving, outlet))
                row.append(leaving)
            if not turns.is_pressed(3, cells, row):
                self.assert_raises(NotPressed, None, plan_by_coming, 3, cells, row, 3)
                continue
            found += 1
            least = max(reference.greatest(cells, coming(cells), 2), 1)
            for number in range(1, least + 2):
                self.assert_same(plan_by_coming(3, cells, row, number), coming(cells) if number >= least else None)
        self.assertGreater(found, 5)

    def test_far_cells(self):
        slots = [10 ** 29 * number for number in range(10)]
        cells = [(slot + at, entry, (at + entry) % 3) for slot in slots for at in range(2) for entry in range(3)]
        row = coming(cells)
        self.assert_same(plan_by_coming(3, cells, row, 1), row)
        row[-1] += 1
        self.assert_raises(NotPressed, None, plan_by_coming, 3, cells, row, 1)
        row[-1] = LAST
        self.assert_raises(NotPressed, None, plan_by_coming, 3, cells, row, 1)


class WrongArgumentsTest(TwinTest):

    def test_wrong_arguments_are_told_ahead_of_the_row(self):
        for number in (0, -1, None, True, "1", 10 ** 40 * -1):
            self.assert_raises(InvalidNumber, None, plan_by_leaving, 2, THREE, [0, 2, 1], number)
            self.assert_raises(InvalidNumber, None, plan_by_coming, 2, THREE, [0, 2, 1], number)
        self.assert_raises(NotBusy, None, plan_by_leaving, 2, THREE, [0, 2, 1], 1)
        self.assert_raises(NotPressed, None, plan_by_coming, 2, THREE, [0, 2, 1], 1)
        self.assert_raises(InvalidRow, ("index", 2), plan_by_leaving, 2, THREE, [0, 1, 0], 0)
        self.assert_raises(InvalidRow, ("index", 2), clashes, 2, THREE, [0, 1, 0])
        self.assert_raises(InvalidRow, ("index", None), clash_number, 2, THREE, [0, 1])
        self.assert_raises(InvalidCells, ("index", 0), bunches, 1, THREE[1:])
        self.assert_raises(InvalidCells, ("index", 1), bunch_number, 1, THREE)

    def test_the_order_of_all_small_results(self):
        for outlets in product(range(3), repeat=6):
            cells = [(number // 3 * 7 + 3, number % 3, outlet) for number, outlet in enumerate(outlets)]
            found = bunches(3, cells)
            self.assert_same(found, sorted(found))
