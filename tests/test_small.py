"""Points 7 and 26: all plans of a few cells with short stays."""

import random
from itertools import product

from idealtwin.errors import InvalidNumber, InvalidRow, InvalidSpeeds, TooLarge
from idealtwin.plans import is_plan, keeps_speeds, speeds_of
from idealtwin.rows import first_come
from idealtwin.small import has_plan, least_pairs, nth_plan, plan_count
from idealtwin.speeds import forcing
from idealtwin.twins import twin_plan
from tests import plan_reference as reference
from tests.helpers import FOUR, THREE, TwinTest, all_rows, small_lists, some_lists, some_row

SPEEDS = [(1, 1), (1, 2), (2, 1), (2, 2), (1, 3), (3, 1), (60, 60), (1, 60)]


def minimal(pairs):
    """Return the ascending pairs of which neither number can be less."""
    found = []
    for pair in pairs:
        less = [other for other in pairs if other != pair and other[0] <= pair[0] and other[1] <= pair[1]]
        if not less:
            found.append(pair)
    return sorted(found)


def far(cells, row, slots):
    """Return cells and their row so many slots later."""
    return [(cell[0] + slots, *cell[1:]) for cell in cells], [leaving + slots for leaving in row]


class AllPlansTest(TwinTest):

    def assert_plans(self, size, cells, row, speeds_list, step=1):
        """Compare with all lists of crossing slots in the stays; they ascend as they are made."""
        plans = reference.all_plans(cells, row)
        for speeds in speeds_list:
            told = [plan for plan in plans if reference.keeps_speeds(cells, plan, speeds)]
            self.assert_same(plan_count(size, cells, row, speeds), len(told))
            self.assertIs(has_plan(size, cells, row, speeds), told != [])
            for index in {*range(0, len(told), step), max(0, len(told) - 1)} if told else []:
                self.assert_same(nth_plan(size, cells, row, speeds, index), told[index])
            for index in (len(told), len(told) + 1, 10 ** 40 - 1):
                self.assert_raises(InvalidNumber, None, nth_plan, size, cells, row, speeds, index)
        used = {tuple(max(1, speed) for speed in speeds_of(size, cells, plan)) for plan in plans}
        self.assert_same(least_pairs(size, cells, row), minimal(used))

    def test_no_cells(self):
        for size in (1, 8):
            for speeds in SPEEDS:
                self.assert_same([has_plan(size, [], [], speeds), plan_count(size, [], [], speeds)], [True, 1])
                self.assert_same(nth_plan(size, [], [], speeds, 0), [])
                self.assert_raises(InvalidNumber, None, nth_plan, size, [], [], speeds, 1)
            self.assert_same(least_pairs(size, [], []), [(1, 1)])

    def test_some_rows(self):
        self.assert_same(least_pairs(2, THREE, [0, 1, 1]), [(1, 2), (2, 1)])
        self.assert_same(least_pairs(2, THREE, [0, 1, 2]), [(1, 1)])
        self.assert_same(least_pairs(1, [(0, 0, 0)], [7]), [(1, 1)])
        cells, row = forcing(3, (2, 1))
        self.assert_same(least_pairs(3, cells, row), [(1, 2), (3, 1)])
        cells, row = forcing(3, (1, 2))
        self.assert_same(least_pairs(3, cells, row), [(1, 3), (2, 1)])
        for speeds, many in [((1, 1), 4), ((2, 2), 11), ((2, 3), 12), ((3, 3), 12)]:
            self.assert_same(plan_count(2, FOUR, [2, 3, 1], speeds), many)

    def test_all_small_rows(self):
        for number, cells in enumerate(small_lists(2, 2)):
            for row in all_rows(cells, 3)[number % 3::3]:
                self.assert_plans(2, cells, row, SPEEDS[:6])

    def test_some_larger_rows(self):
        for size in (1, 3, 8):
            for seed, cells in enumerate(some_lists(101, 25, size, 4, 7)):
                row = some_row(seed, cells, 3)
                if max([leaving - cell[0] for cell, leaving in zip(cells, row)], default=0) < 8:
                    self.assert_plans(size, cells, row, SPEEDS, 7)

    def test_ports_that_have_nothing_in_common(self):
        # The pairs of cells of one port do not hinder those of the others.
        cells = [(0, entry, entry) for entry in range(4)] + [(1, entry, entry) for entry in range(4)]
        row = [2] * 4 + [3] * 4
        for speeds in [(1, 1), (2, 2), (60, 60)]:
            alone = plan_count(8, cells[:1] + cells[4:5], [2, 3], speeds)
            self.assert_same(plan_count(8, cells, row, speeds), alone ** 4)


class EightCellsTest(TwinTest):

    def assert_there(self, size, cells, row, speeds, many):
        """Assert that there are so many plans, and look at some of them."""
        self.assert_same(plan_count(size, cells, row, speeds), many)
        source = random.Random(many)
        found = []
        for index in sorted({0, many - 1, many // 2, *[source.randrange(many) for _ in range(5)]}):
            plan = nth_plan(size, cells, row, speeds, index)
            self.assertIs(is_plan(size, cells, row, plan) and keeps_speeds(size, cells, plan, speeds), True)
            found.append(plan)
        self.assertEqual(found, sorted(found))
        self.assertEqual(len({tuple(plan) for plan in found}), len(found))
        self.assert_raises(InvalidNumber, None, nth_plan, size, cells, row, speeds, many)

    def test_stays_of_8_slots(self):
        apart = [(0, port, port) for port in range(8)]
        self.assert_there(8, apart, [7] * 8, (1, 1), 8 ** 8)
        self.assertEqual(nth_plan(8, apart, [7] * 8, (1, 1), 8 ** 8 - 1), [7] * 8)
        self.assertEqual(nth_plan(8, apart, [7] * 8, (1, 1), 8), [0] * 6 + [1, 0])
        self.assert_same(least_pairs(8, apart, [7] * 8), [(1, 1)])
        one_input = [(slot, 0, slot) for slot in range(8)]
        self.assert_there(8, one_input, [slot + 7 for slot in range(8)], (8, 1), 8 ** 8)
        # Each cell has the choice of the slots that those of the same output did not take.
        one_output = [(0, port, 0) for port in range(8)]
        self.assert_there(8, one_output, list(range(8)), (1, 1), 1)
        self.assert_there(8, one_output, list(range(8)), (1, 8), 40320)
        self.assert_same(least_pairs(8, one_output, list(range(8))), [(1, 1)])

    def test_8_cells_of_some_kinds(self):
        for seed in range(12):
            source = random.Random(seed)
            places = sorted(source.sample([(slot, entry) for slot in range(4) for entry in range(4)], 8))
            cells = [(*place, source.randrange(2 + seed % 3)) for place in places]
            row = first_come(4, cells)
            if max(leaving - cell[0] for cell, leaving in zip(cells, row)) > 3:
                continue
            plans = reference.all_plans(cells, row)
            for speeds in [(1, 1), (1, 2), (2, 1), (2, 2)]:
                told = [plan for plan in plans if reference.keeps_speeds(cells, plan, speeds)]
                self.assert_same(plan_count(4, cells, row, speeds), len(told))
                if told:
                    self.assert_there(4, cells, row, speeds, len(told))
                    self.assert_same(nth_plan(4, cells, row, speeds, len(told) // 3), told[len(told) // 3])

    def test_slots_of_30_digits(self):
        for seed, cells in enumerate(some_lists(102, 12, 3, 3, 5)):
            row = some_row(seed, cells, 3)
            for slots in (10 ** 29, 10 ** 30 - 3):
                late_cells, late_row = far(cells, row, slots)
                for speeds in SPEEDS[:4]:
                    many = plan_count(3, cells, row, speeds)
                    self.assert_same(plan_count(3, late_cells, late_row, speeds), many)
                    for index in {0, many - 1} if many else []:
                        told = [slot + slots for slot in nth_plan(3, cells, row, speeds, index)]
                        self.assert_same(nth_plan(3, late_cells, late_row, speeds, index), told)
                self.assert_same(least_pairs(3, late_cells, late_row), least_pairs(3, cells, row))
        cells = [(10 ** 29 * number, 0, number) for number in range(8)]
        row = [slot + 7 for slot, _, _ in cells]
        self.assert_there(8, cells, row, (1, 1), 8 ** 8)


class TooLargeTest(TwinTest):

    def test_9_cells(self):
        cells = [(slot, 0, 0) for slot in range(9)]
        for function in (has_plan, plan_count):
            function(1, cells[:8], list(range(8)), (1, 1))
            self.assert_raises(TooLarge, ("limit", 8), function, 1, cells, list(range(9)), (1, 1))
        for index in (0, 1, 10 ** 40 - 1):
            self.assert_raises(TooLarge, ("limit", 8), nth_plan, 1, cells, list(range(9)), (1, 1), index)
        self.assert_raises(TooLarge, ("limit", 8), least_pairs, 1, cells, list(range(9)))
        self.assert_same(least_pairs(1, cells[:8], list(range(8))), [(1, 1)])

    def test_a_stay_of_9_slots(self):
        for at in range(3):
            row = [0, 1, 2]
            row[at] = THREE[at][0] + 7
            self.assert_same(has_plan(2, THREE, row, (2, 2)), True)
            row[at] += 1
            self.assert_raises(TooLarge, ("limit", 8), has_plan, 2, THREE, row, (2, 2))
            self.assert_raises(TooLarge, ("limit", 8), plan_count, 2, THREE, row, (2, 2))
            self.assert_raises(TooLarge, ("limit", 8), nth_plan, 2, THREE, row, (2, 2), 0)
            self.assert_raises(TooLarge, ("limit", 8), least_pairs, 2, THREE, row)
        self.assert_raises(TooLarge, ("limit", 8), has_plan, 1, [(0, 0, 0)], [10 ** 31 - 1], (1, 1))

    def test_errors_of_arguments_come_ahead(self):
        row = [0, 20, 1]
        self.assert_raises(InvalidRow, ("index", 2), has_plan, 2, THREE, [0, 20, 0], (0, 0))
        for speeds in ((0, 1), (61, 1), None, [1, 1]):
            for function in (has_plan, plan_count):
                self.assert_raises(InvalidSpeeds, None, function, 2, THREE, row, speeds)
            self.assert_raises(InvalidSpeeds, None, nth_plan, 2, THREE, row, speeds, -1)
        for index in (-1, None, True, "0"):
            self.assert_raises(InvalidNumber, None, nth_plan, 2, THREE, row, (1, 1), index)


class FactsTest(TwinTest):

    def test_enough_speeds_have_plans_and_forcing_rows_have_none(self):
        for size in (2, 3):
            for speeds in product(range(1, 5), repeat=2):
                found = forcing(size, speeds)
                if found is not None:
                    self.assertIs(has_plan(size, *found, speeds), False)
                    self.assertIs(has_plan(size, *found, (2, 2)), True)

    def test_a_twin_plan_is_among_the_plans(self):
        for seed, cells in enumerate(some_lists(103, 30, 3, 3, 6)):
            row = some_row(seed, cells, 3)
            plan = twin_plan(3, cells, row)
            plans = [nth_plan(3, cells, row, (2, 2), at) for at in range(plan_count(3, cells, row, (2, 2)))]
            self.assertIn(plan, plans)
            for pair in least_pairs(3, cells, row):
                self.assertLessEqual(min(pair), 2)
