"""Points 9 and 22: runs by the three rules, cells that cross late, and plans that keep the speeds (2, 2)."""

import random
from itertools import product

from idealtwin.errors import Impossible, InvalidCells, InvalidCrossings, InvalidRhythm, InvalidRow, InvalidRule
from idealtwin.plans import is_plan, keeps_rhythm, keeps_speeds
from idealtwin.rhythms import unsure
from idealtwin.rows import first_come, last_come
from idealtwin.speeds import forcing
from idealtwin.twins import late_cells, run_plan, twin_plan
from tests import steady_reference as reference
from tests.helpers import (
    FOUR, THREE, TwinTest, all_rows, crowd, far_cells, far_row, small_lists, some_lists, some_row,
)

RULES = ("newest", "oldest", "urgent")
RHYTHMS = [[1], [2], [9], [0, 1], [1, 0], [0, 0, 3], [1, 2], [2, 0, 1], [0, 1, 1, 2], [3, 0]]
LAST = 10 ** 31 - 1


def some_rhythm(seed, length):
    """Return a drawn rhythm that is not 0 alone."""
    source = random.Random(seed)
    rhythm = [source.choice([0, 0, 1, 1, 2, 3, 9]) for _ in range(length)]
    rhythm[source.randrange(length)] = 1
    return rhythm


def later(cells, row, slots):
    """Return cells and a row that come so many slots later."""
    return [(slot + slots, entry, outlet) for slot, entry, outlet in cells], [leaving + slots for leaving in row]


class RunTest(TwinTest):

    def assert_run(self, size, cells, row, rhythm):
        for rule in RULES:
            found = run_plan(size, cells, row, rhythm, rule)
            self.assert_same(found, reference.run(cells, row, rhythm, rule))
            self.assertIs(keeps_rhythm(size, cells, found, rhythm), True)

    def test_some_runs(self):
        for cells, row, rhythm, rule, told in [
            (THREE, [0, 1, 1], [2], "newest", [0, 0, 1]), (THREE, [0, 1, 1], [1], "newest", [0, 2, 1]),
            (THREE, [0, 1, 1], [1], "oldest", [0, 1, 2]), (THREE, [0, 1, 1], [1], "urgent", [0, 2, 1]),
            (THREE, [1, 0, 1], [1], "newest", [1, 0, 1]), (THREE, [0, 1, 1], [0, 2], "newest", [1, 1, 1]),
            (THREE, [0, 1, 1], [0, 1], "newest", [1, 3, 1]), (THREE, [0, 1, 1], [0, 1], "oldest", [1, 3, 1]),
            (FOUR, [2, 0, 1], [1], "newest", [2, 0, 1]), (FOUR, [0, 1, 2], [0, 0, 1], "oldest", [2, 5, 8]),
            (FOUR, [0, 1, 2], [0, 0, 1], "urgent", [2, 5, 8]), (FOUR, [0, 1, 2], [0, 0, 3], "newest", [2, 2, 2]),
            ([], [], [1], "newest", []), ([], [], [0, 9], "urgent", []),
        ]:
            with self.subTest(row=row, rhythm=rhythm, rule=rule):
                self.assert_same(run_plan(2, cells, row, rhythm, rule), told)

    def test_the_three_rules_differ(self):
        # Input 0 has an old cell, a new one and an urgent one; each rule sends its own one ahead.
        cells = [(0, 0, 0), (1, 0, 1), (2, 0, 2)]
        row = [7, 5, 6]
        for rule, told in [("newest", [4, 3, 2]), ("oldest", [2, 3, 4]), ("urgent", [4, 2, 3])]:
            self.assert_same(run_plan(3, cells, row, [0, 0, 1, 1, 1], rule), told)
        # Of two urgent ones that leave in one slot the one that came later goes ahead.
        cells, row = [(0, 0, 0), (1, 0, 1), (2, 0, 2)], [6, 6, 9]
        self.assert_same(run_plan(3, cells, row, [0, 0, 1, 1, 1], "urgent"), [3, 2, 4])

    def test_each_pairing_is_the_best_one_for_the_inputs(self):
        # Both inputs have an old cell for each output; the outputs like the cells less that the inputs like more.
        cells = [(0, 0, 1), (0, 1, 0), (1, 0, 0), (1, 1, 1)]
        row = [1, 1, 2, 2]
        self.assert_same(run_plan(2, cells, row, [0, 1], "newest"), [3, 3, 1, 1])
        self.assert_same(run_plan(2, cells, row, [0, 1], "oldest"), [1, 1, 3, 3])
        self.assert_same(run_plan(2, cells, row, [0, 1], "urgent"), [1, 1, 3, 3])

    def test_small_rows(self):
        for number, cells in enumerate(small_lists(2, 2)):
            for row in all_rows(cells, 3)[number % 4::4]:
                for rhythm in RHYTHMS[number % 3::3]:
                    self.assert_run(2, cells, row, rhythm)

    def test_some_rows(self):
        for size, many in [(1, 20), (2, 20), (3, 30), (8, 60)]:
            for seed, cells in enumerate(some_lists(61, 25, size, 12, many)):
                for row in (first_come(size, cells), last_come(size, cells), some_row(seed, cells, 1 + seed)):
                    self.assert_run(size, cells, row, some_rhythm(seed, 1 + seed % 5))

    def test_long_rhythms(self):
        for seed in range(8):
            cells = some_lists(70 + seed, 1, 8, 20, 60)[0]
            self.assert_run(8, cells, first_come(8, cells), some_rhythm(seed, 40))
            self.assert_run(8, cells, some_row(seed, cells, 9), [0] * 39 + [1 + seed])
        self.assert_run(8, crowd(), first_come(8, crowd()), [0] * 20 + [1] + [0] * 19)

    def test_cells_cross_behind_their_stay(self):
        cells = crowd()
        row = first_come(8, cells)
        for rule in RULES:
            found = run_plan(8, cells, row, [0] * 39 + [1], rule)
            self.assertEqual(sorted(found), [40 * turn - 1 for turn in range(1, 61)])
            self.assertEqual(late_cells(8, cells, row, found), list(range(60)))
        self.assert_same(run_plan(8, cells, row, [0] * 39 + [1], "newest")[:8], [40 * turn - 1 for turn in range(1, 9)])

    def test_slots_of_30_digits_and_leaving_slots_of_31(self):
        cells = [(10 ** 30 - 1, 0, 0), (10 ** 30 - 1, 1, 0)]
        for rule in RULES:
            self.assert_same(run_plan(2, cells, [LAST, LAST - 1], [1], rule), [10 ** 30, 10 ** 30 - 1])
            # 10 ** 30 is a multiple of 40.
            self.assert_same(run_plan(2, cells, [LAST, LAST - 1], [0] * 39 + [9], rule), [10 ** 30 - 1] * 2)
            self.assert_same(run_plan(2, cells, [LAST, LAST - 1], [0] * 38 + [9, 0], rule), [10 ** 30 + 38] * 2)

    def test_far_cells(self):
        cells = far_cells()
        for rhythm in RHYTHMS + [some_rhythm(3, 40), [0] * 39 + [1]]:
            for offsets in ([0, 1, 0, 2, 1, 0], [2, 1, 0, 0, 1, 5]):
                row = far_row(offsets)
                for rule in RULES:
                    found = run_plan(8, cells, row, rhythm, rule)
                    self.assertEqual(len(found), 60)
                    for number in range(10):
                        # Each group of cells runs as alone, in the slots that the rhythm has there.
                        base = 10 ** 29 * number
                        at = base % len(rhythm)
                        group, own_row = later(cells[:6], row[:6], at)
                        told = [slot - at + base for slot in reference.run(group, own_row, rhythm, rule)]
                        self.assert_same(found[6 * number:6 * number + 6], told)

    def test_a_run_in_slot_10_to_the_29(self):
        self.assert_same(run_plan(1, [(10 ** 29, 0, 0)], [10 ** 29], [0, 1], "newest"), [10 ** 29 + 1])
        self.assert_same(run_plan(1, [(10 ** 29 + 1, 0, 0)], [LAST], [0, 1], "oldest"), [10 ** 29 + 1])

    def test_impossible(self):
        for rhythm in ([0], [0, 0], [0] * 40):
            for rule in RULES:
                self.assert_raises(Impossible, None, run_plan, 2, THREE, [0, 1, 1], rhythm, rule)
                self.assert_raises(Impossible, None, run_plan, 2, [], [], rhythm, rule)
            self.assert_raises(InvalidRule, None, run_plan, 2, THREE, [0, 1, 1], rhythm, "new")
            self.assert_raises(InvalidRow, ("index", None), run_plan, 2, THREE, [0], rhythm, "newest")
        self.assert_raises(InvalidRhythm, ("index", 2), run_plan, 2, THREE, [0, 1, 1], [0, 0, 10], "new")


class InTimeTest(TwinTest):

    def assert_in_time(self, size, cells, row, rhythm):
        """Assert that no cell is late by the rule newest if the rhythm has enough pairings in all stays."""
        if not unsure(size, cells, row, rhythm):
            found = run_plan(size, cells, row, rhythm, "newest")
            self.assert_same(late_cells(size, cells, row, found), [])
            self.assertIs(is_plan(size, cells, row, found), True)
            return 1
        return 0

    def test_small_rows(self):
        tried = 0
        for cells in small_lists(2, 2):
            for row in all_rows(cells, 4):
                for rhythm in ([2], [1, 2], [2, 1], [1, 3], [3, 1, 1]):
                    tried += self.assert_in_time(2, cells, row, rhythm)
        self.assertGreater(tried, 1000)

    def test_some_rows(self):
        tried = 0
        for size in (2, 3, 5, 8):
            for seed, cells in enumerate(some_lists(81, 40, size, 8, 60)):
                row = some_row(seed, cells, 1 + seed // 4)
                for rhythm in ([2], [1, 3], [3, 1], [1, 2, 3], [1, 2, 2, 2, 2, 3], [2] * 39 + [1]):
                    tried += self.assert_in_time(size, cells, row, rhythm)
        self.assertGreater(tried, 300)


class LateTest(TwinTest):

    def test_some_crossings(self):
        for row, crossings, told in [
            ([0, 1, 1], [0, 2, 1], [1]), ([0, 1, 1], [0, 1, 1], []), ([0, 1, 1], [1, 2, 2], [0, 1, 2]),
            ([0, 2, 1], [0, 2, 2], [2]), ([0, 1, 1], [LAST, 0, LAST], [0, 2]), ([LAST, 1, LAST], [LAST, 2, 1], [1]),
        ]:
            self.assert_same(late_cells(2, THREE, row, crossings), told)
        self.assert_same(late_cells(2, [], [], []), [])

    def test_small_crossings(self):
        for cells in small_lists(2, 1):
            for row in all_rows(cells, 3):
                for crossings in product(range(4), repeat=len(cells)):
                    told = [at for at in range(len(cells)) if crossings[at] > row[at]]
                    self.assert_same(late_cells(2, cells, row, list(crossings)), told)

    def test_wrong_arguments(self):
        self.assert_raises(InvalidCrossings, ("index", 2), late_cells, 2, THREE, [0, 1, 1], [0, 0, 0])
        self.assert_raises(InvalidRow, ("index", 1), late_cells, 2, THREE, [0, 0, 1], [0, 0, 0])
        self.assert_raises(InvalidCells, ("index", 1), late_cells, 1, THREE, [0, 0, 1], [0, 0, 0])


class TwinPlanTest(TwinTest):

    def assert_twin_plan(self, size, cells, row):
        found = twin_plan(size, cells, row)
        self.assertIs(is_plan(size, cells, row, found), True)
        self.assertIs(keeps_speeds(size, cells, found, (2, 2)), True)
        self.assertEqual([type(slot) for slot in found], [int] * len(cells))
        self.assert_same(twin_plan(size, cells, row), found)

    def test_small_rows(self):
        for cells in small_lists(2, 2):
            for row in all_rows(cells, 4):
                self.assert_twin_plan(2, cells, row)
        for cells in small_lists(3, 1):
            for row in all_rows(cells, 3):
                self.assert_twin_plan(3, cells, row)

    def test_60_cells_of_all_sizes(self):
        for size in range(1, 9):
            for seed in range(12):
                slots = 60 if size == 1 else 90 // size
                places = [(slot, entry) for slot in range(slots) for entry in range(size)]
                source = random.Random(seed)
                chosen = sorted(source.sample(places, min(60, len(places))))
                cells = [(*place, source.randrange(1 + seed % size)) for place in chosen]
                for row in (first_come(size, cells), last_come(size, cells), some_row(seed, cells, 1 + 5 * seed)):
                    self.assert_twin_plan(size, cells, row)

    def test_crowded_and_far_cells(self):
        self.assert_twin_plan(8, crowd(), first_come(8, crowd()))
        self.assert_twin_plan(8, crowd(), last_come(8, crowd()))
        for offsets in ([0, 1, 0, 2, 1, 0], [2, 1, 0, 0, 1, 5], [10 ** 28, 10 ** 30, 7, 0, 1, 5]):
            self.assert_twin_plan(8, far_cells(), far_row(offsets))
        self.assert_twin_plan(8, [], [])

    def test_forcing_cells(self):
        for size in range(2, 9):
            for speeds in [(1, number) for number in range(1, size)] + [(number, 1) for number in range(1, size)]:
                cells, row = forcing(size, speeds)
                self.assert_twin_plan(size, cells, row)
