"""Points 7 and 19: which speeds are enough, and cells for which the others fail."""

from itertools import product

from idealtwin.errors import InvalidSize, InvalidSpeeds
from idealtwin.plans import is_plan, keeps_speeds
from idealtwin.rows import first_come, is_busy, is_cells, is_row
from idealtwin.speeds import forcing, is_enough, least_speeds
from idealtwin.turns import is_pressed, turned_cells, turned_row
from tests import plan_reference as reference
from tests.helpers import TwinTest, all_rows, small_lists, some_lists, some_row

SPEEDS = list(product(range(1, 61), repeat=2))


def are_enough(size, first, second):
    return (first >= 2 and second >= 2) or first >= size or second >= size


class EnoughTest(TwinTest):

    def test_some_speeds(self):
        for size, speeds, told in [
            (1, (1, 1), True), (2, (1, 1), False), (2, (1, 2), True), (2, (2, 1), True), (3, (2, 2), True),
            (3, (1, 2), False), (3, (2, 1), False), (3, (1, 3), True), (3, (9, 1), True), (8, (1, 7), False),
            (8, (7, 1), False), (8, (1, 8), True), (8, (8, 1), True), (8, (2, 2), True), (8, (60, 60), True),
            (8, (1, 60), True), (8, (60, 1), True), (8, (1, 1), False), (5, (4, 1), False), (5, (5, 1), True),
        ]:
            with self.subTest(size=size, speeds=speeds):
                self.assertIs(is_enough(size, speeds), told)

    def test_all_sizes_and_speeds(self):
        for size in range(1, 9):
            for first, second in SPEEDS:
                self.assertIs(is_enough(size, (first, second)), are_enough(size, first, second))

    def test_speeds_that_are_enough_have_plans_for_small_rows(self):
        for cells in small_lists(2, 2):
            for row in all_rows(cells, 3):
                for speeds in ((1, 2), (2, 1), (2, 2)):
                    self.assertIs(reference.has_plan_with_speeds(cells, row, speeds), True)

    def test_speeds_that_are_enough_have_plans_for_some_rows(self):
        for size in (1, 3, 5):
            for seed, cells in enumerate(some_lists(41, 40, size, 6, 18)):
                row = some_row(seed, cells, 3)
                for speeds in least_speeds(size):
                    self.assertIs(reference.has_plan_with_speeds(cells, row, speeds), True)


class LeastSpeedsTest(TwinTest):

    def test_all_sizes(self):
        self.assert_same(least_speeds(1), [(1, 1)])
        self.assert_same(least_speeds(2), [(1, 2), (2, 1)])
        for size in range(3, 9):
            self.assert_same(least_speeds(size), [(1, size), (2, 2), (size, 1)])

    def test_neither_number_can_be_less(self):
        for size in range(1, 9):
            least = []
            for first, second in SPEEDS:
                less = [pair for pair in [(first - 1, second), (first, second - 1)] if 0 not in pair]
                if are_enough(size, first, second) and not any(are_enough(size, *pair) for pair in less):
                    least.append((first, second))
            self.assert_same(least_speeds(size), least)


class ForcingTest(TwinTest):

    def test_all_sizes_and_speeds(self):
        for size in range(1, 9):
            for first, second in SPEEDS:
                if are_enough(size, first, second):
                    self.assertIs(forcing(size, (first, second)), None)
                else:
                    self.assert_forcing(size, (first, second))

    def assert_forcing(self, size, speeds):
        """Assert that the told cells are those of the document and have no plan."""
        found = forcing(size, speeds)
        self.assertEqual([type(found), len(found)], [tuple, 2])
        cells, row = found
        self.assertTrue(is_cells(size, cells) and is_row(size, cells, row))
        self.assertIs(reference.has_plan_with_speeds(cells, row, speeds), False)
        number = max(speeds)
        expected = [(0, entry, 0) for entry in range(number + 1)]
        for slot in range(1, number + 1):
            for outlet, entry in enumerate(range(slot, number + 1)):
                expected.append((slot, entry, outlet + 1))
        expected_row = first_come(size, expected)
        if speeds[0] > 1:
            last = max(expected_row)
            expected, expected_row = (
                turned_cells(size, expected, expected_row, last), turned_row(size, expected, expected_row, last)
            )
        self.assert_same(found, (expected, expected_row))
        self.assertIs(is_busy(size, cells, row) if speeds[0] == 1 else is_pressed(size, cells, row), True)

    def test_some_speeds(self):
        wave = [(0, 0, 0), (0, 1, 0), (0, 2, 0), (1, 1, 1), (1, 2, 2), (2, 2, 1)]
        back = [(0, 0, 2), (0, 1, 2), (1, 0, 1), (1, 1, 1), (1, 2, 2), (2, 0, 0)]
        for size in (3, 4, 8):
            self.assert_same(forcing(size, (1, 1)), ([(0, 0, 0), (0, 1, 0), (1, 1, 1)], [0, 1, 1]))
            self.assert_same(forcing(size, (1, 2)), (wave, [0, 1, 2, 1, 1, 2]))
            self.assert_same(forcing(size, (2, 1)), (back, [2, 0, 2, 1, 1, 2]))

    def test_few_cells_have_no_plan_of_all_plans(self):
        for size, speeds in [(2, (1, 1)), (3, (1, 2)), (3, (2, 1)), (8, (1, 1))]:
            cells, row = forcing(size, speeds)
            plans = reference.all_plans(cells, row)
            self.assertGreater(len(plans), 1)
            for plan in plans:
                self.assertIs(is_plan(size, cells, row, plan), True)
                self.assertIs(keeps_speeds(size, cells, plan, speeds), False)

    def test_greater_speeds_have_a_plan_for_them(self):
        for size, speeds, more in [(4, (1, 2), (1, 3)), (4, (1, 2), (2, 2)), (4, (2, 1), (3, 1)), (4, (3, 1), (2, 2))]:
            cells, row = forcing(size, speeds)
            self.assertIs(reference.has_plan_with_speeds(cells, row, more), True)

    def test_each_call_returns_new_lists(self):
        for size, speeds in [(3, (1, 2)), (3, (2, 1)), (2, (1, 1))]:
            cells, row = forcing(size, speeds)
            expected = repr((cells, row))
            cells.append("changed")
            row.append("changed")
            self.assertEqual(repr(forcing(size, speeds)), expected)


class WrongArgumentsTest(TwinTest):

    def test_wrong_arguments(self):
        for function in (is_enough, forcing):
            self.assert_raises(InvalidSize, None, function, 0, (0, 0))
            for speeds in [
                (0, 1), (1, 0), (61, 1), (1, 61), [1, 1], (1,), (1, 1, 1), (), 11, None, "11", (True, 1), (1, True),
                (1, "1"), (None, 1), (-1, 2), (10 ** 200 - 1, 1), ((1, 1),), {1: 1, 2: 2},
            ]:
                self.assert_raises(InvalidSpeeds, None, function, 2, speeds)
        self.assert_raises(InvalidSize, None, least_speeds, 9)
        self.assert_raises(InvalidSize, None, least_speeds, True)
