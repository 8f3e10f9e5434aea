"""Points 8 and 18: plans that keep a rhythm at one side, and jams."""

import random
from itertools import product

from idealtwin.errors import InvalidRhythm, InvalidRow, InvalidSide
from idealtwin.slowsides import jam, shows_jam, shows_side_plan, side_plan
from tests import plan_reference as reference
from tests.helpers import (
    ANY_VALUES, FOUR, THREE, TwinTest, all_rows, crowd, far_cells, far_row, small_lists, some_lists, some_row,
)

LAST = 10 ** 31 - 1
SIDES = ("inputs", "outputs")
RHYTHMS = [[0], [1], [2], [9], [0, 1], [1, 0], [0, 2], [2, 0], [1, 2], [0, 0, 1], [0, 1, 0], [1, 0, 0], [2, 0, 1]]


class OneSideTest(TwinTest):

    def assert_one_side(self, size, cells, row, rhythm, side):
        """Assert that there is a plan or a jam, never both; return the plan."""
        plan = side_plan(size, cells, row, rhythm, side)
        found = jam(size, cells, row, rhythm, side)
        told = (cells, row, rhythm, side, plan, found)
        self.assertNotEqual(plan is None, found is None, told)
        if plan is not None:
            self.assertTrue(reference.is_plan(cells, row, plan), told)
            self.assertTrue(reference.keeps_side(cells, plan, rhythm, side), told)
            self.assertIs(shows_side_plan(size, cells, row, rhythm, side, plan), True)
        else:
            self.assertTrue(reference.is_jam(size, cells, row, rhythm, side, found), told)
            self.assertIs(shows_jam(size, cells, row, rhythm, side, found), True)
        self.assert_same(side_plan(size, cells, row, rhythm, side), plan)
        self.assert_same(jam(size, cells, row, rhythm, side), found)
        return plan

    def assert_plan(self, told, size, cells, row, rhythm, side):
        """Assert that there is a plan, or that there is none."""
        plan = self.assert_one_side(size, cells, row, rhythm, side)
        self.assertIs(plan is not None, told, (cells, row, rhythm, side))


class SmallTest(OneSideTest):

    def test_some_rows(self):
        for row, rhythm, side, told in [
            ([0, 1, 1], [1], "inputs", True), ([0, 1, 1], [1], "outputs", True), ([0, 1, 1], [0, 2], "inputs", False),
            ([0, 1, 1], [1, 0], "inputs", False), ([0, 1, 1], [2, 0], "outputs", False),
            ([0, 1, 2], [2, 0], "outputs", True), ([0, 1, 1], [2, 0], "inputs", False),
            ([0, 1, 2], [1, 0], "inputs", True),
        ]:
            with self.subTest(row=row, rhythm=rhythm, side=side):
                self.assert_plan(told, 2, THREE, row, rhythm, side)

    def test_both_sides_have_plans_that_no_one_plan_keeps(self):
        for side in SIDES:
            self.assert_plan(True, 2, THREE, [0, 1, 1], [1], side)
        self.assertIs(reference.has_plan_with_rhythm(THREE, [0, 1, 1], [1]), False)

    def test_no_cells(self):
        for rhythm in ([0], [1], [0] * 40):
            for side in SIDES:
                self.assert_same(side_plan(3, [], [], rhythm, side), [])
                self.assertIs(jam(3, [], [], rhythm, side), None)
                self.assertIs(shows_side_plan(3, [], [], rhythm, side, []), True)
                self.assertIs(shows_jam(3, [], [], rhythm, side, (0, 0, 0)), False)

    def test_only_zeros(self):
        for side in SIDES:
            for many in (1, 2, 40):
                self.assert_plan(False, 2, THREE, [0, 1, 1], [0] * many, side)
                self.assert_plan(False, 1, [(5, 0, 0)], [5], [0] * many, side)
                self.assert_plan(False, 1, [(5, 0, 0)], [LAST], [0] * many, side)

    def test_all_small_rows(self):
        for number, cells in enumerate(small_lists(2, 2)):
            for row in all_rows(cells, 3)[number % 3::3]:
                for rhythm in RHYTHMS:
                    for side in SIDES:
                        told = reference.has_side_plan(cells, row, rhythm, side)
                        self.assert_plan(told, 2, cells, row, rhythm, side)

    def test_the_cells_that_leave_first_must_cross_first(self):
        cells = [(0, 0, 0), (1, 0, 1), (2, 0, 2)]
        for row in ([4, 2, 3], [4, 3, 2], [3, 4, 2], [2, 4, 3], [3, 2, 4], [2, 3, 4]):
            self.assert_plan(True, 3, cells, row, [1], "inputs")
            self.assert_plan(True, 3, cells, row, [0, 0, 1, 1, 1], "inputs")
            self.assert_plan(False, 3, cells, row, [0, 0, 1, 1, 0], "inputs")

    def test_some_larger_rows(self):
        for seed, cells in enumerate(some_lists(31, 80, 4, 7, 24)):
            source = random.Random(seed)
            for slack in (1, 2, 5):
                row = some_row(seed, cells, slack)
                rhythm = [source.choice([0, 1, 1, 2, 3]) for _ in range(source.randint(1, 5))]
                for side in SIDES:
                    told = reference.has_side_plan(cells, row, rhythm, side)
                    self.assert_plan(told, 4, cells, row, rhythm, side)


class FarTest(OneSideTest):

    def test_groups_of_far_cells(self):
        row = far_row([0, 1, 0, 2, 1, 0])
        for seed in range(60):
            source = random.Random(seed)
            rhythm = [source.choice([0, 1, 1, 1, 2, 3]) for _ in range(source.choice([1, 2, 3, 7, 40]))]
            for side in SIDES:
                told = []
                for number in range(10):
                    slot = 10 ** 29 * number
                    turned = [rhythm[(slot + at) % len(rhythm)] for at in range(3)]
                    cells = [(0, *cell[1:]) for cell in far_cells()[:6]]
                    told.append(reference.has_side_plan(cells, [0, 1, 0, 2, 1, 0], turned, side))
                self.assert_plan(all(told), 8, far_cells(), row, rhythm, side)

    def test_stays_of_10_to_the_30_slots(self):
        rhythm = [0] * 39 + [1]
        for side in SIDES:
            cells = [(number // 8, number % 8, 0) for number in range(60)]
            if side == "inputs":
                cells = [(number, 0, number % 8) for number in range(60)]
            self.assert_plan(True, 8, cells, [10 ** 30 + number for number in range(60)], rhythm, side)
            self.assert_plan(True, 8, cells, [LAST - number for number in range(60)], rhythm, side)
            self.assert_plan(False, 8, cells, [10 ** 30 + number for number in range(60)], [0] * 40, side)
            # The 60th pairing is in slot 2399.
            self.assert_plan(True, 8, cells, [2340 + number for number in range(60)], rhythm, side)
            self.assert_plan(False, 8, cells, [2339 + number for number in range(60)], rhythm, side)

    def test_sparse_rhythms_far_behind(self):
        found = []
        for seed, cells in enumerate(some_lists(32, 150, 3, 12, 30)):
            source = random.Random(seed)
            length = source.choice([2, 3, 5, 17, 40])
            rhythm = [0] * length
            for _ in range(source.randint(1, length)):
                rhythm[source.randrange(length)] = source.choice([1, 1, 2])
            base = source.randrange(10 ** 29)
            far = [(base + slot, entry, outlet) for slot, entry, outlet in cells]
            row = some_row(seed, far, source.choice([3, length, 3 * length, 9 * length]))
            for side in SIDES:
                told = not reference.jams(3, far, row, rhythm, side)
                self.assert_plan(told, 3, far, row, rhythm, side)
                found.append(told)
        self.assertGreater(found.count(True), 50)
        self.assertGreater(found.count(False), 50)

    def test_exact_ends_of_stays(self):
        for length in (2, 3, 7, 40):
            for at in range(length):
                rhythm = [0] * length
                rhythm[at] = 1
                base = 10 ** 29 // length * length
                for first in range(length):
                    wait = (at - first) % length
                    for side in SIDES:
                        cells = [(base + first, 0, 0)]
                        self.assert_plan(True, 1, cells, [base + first + wait], rhythm, side)
                        if wait > 0:
                            self.assert_plan(False, 1, cells, [base + first + wait - 1], rhythm, side)
                        self.assert_plan(True, 1, cells, [LAST], rhythm, side)

    def test_all_rounds_of_a_stay_count(self):
        # The cells need all pairings from their own slot to the leaving slot of the last one.
        for rounds in (1, 2, 5, 7):
            rhythm = [0] * 39 + [1]
            base = 40 * 10 ** 28
            cells = [(base, entry, 0) for entry in range(rounds)]
            last = base + 40 * rounds - 1
            row = [last - rounds + 1 + number for number in range(rounds)]
            self.assert_plan(True, 8, cells, row, rhythm, "outputs")
            self.assert_plan(False, 8, cells, [slot - 1 for slot in row], rhythm, "outputs")
            row = [base + 40 * number - 1 for number in range(1, rounds + 1)]
            self.assert_plan(True, 8, cells, row, rhythm, "outputs")
            row[-1] -= 1
            self.assert_plan(False, 8, cells, row, rhythm, "outputs")

    def test_60_cells(self):
        row = list(range(60))
        for rhythm, told in [([1], True), ([1] * 39 + [0], False), ([2, 0], True), ([0, 2], False), ([1, 1, 2], True)]:
            self.assert_plan(told, 8, crowd(), row, rhythm, "outputs")
        later = [slot + 1 for slot in row]
        for rhythm, told in [([0, 2], True), ([2, 0], True), ([0, 1], False), ([0, 0, 3], False)]:
            self.assert_plan(told, 8, crowd(), later, rhythm, "outputs")
        for rhythm, told in [([1], True), ([0] * 8 + [9], False)]:
            self.assert_plan(told, 8, crowd(), row, rhythm, "inputs")


class ShowsTest(TwinTest):

    def test_any_value(self):
        for value in ANY_VALUES:
            for side in SIDES:
                with self.subTest(value=value, side=side):
                    self.assertIs(shows_jam(2, THREE, [0, 1, 1], [0], side, value), False)
                    self.assertIs(shows_side_plan(2, THREE, [0, 1, 1], [9], side, value), False)
                    told = value == 0 and type(value) is int
                    self.assertIs(shows_side_plan(2, THREE, [0, 1, 1], [9], side, [value, 0, 1]), told)
                    self.assertIs(shows_jam(2, THREE, [0, 1, 1], [0], side, (value, 0, 1)), self._is_port(value))
                    self.assertIs(shows_jam(2, THREE, [0, 1, 1], [0], side, (0, value, 1)), told)
                    port = 1 if side == "inputs" else 0
                    told = type(value) is int and value >= port
                    self.assertIs(shows_jam(2, THREE, [0, 1, 1], [0], side, (port, 0, value)), told)

    def _is_port(self, value):
        return type(value) is int and value in (0, 1)

    def test_all_small_jams(self):
        for number, cells in enumerate(small_lists(2, 2)):
            for row in all_rows(cells, 3)[number % 5::5]:
                for rhythm in RHYTHMS[number % 2::2]:
                    for side in SIDES:
                        for value in product(range(-1, 3), range(-1, 4), range(-1, 5)):
                            told = reference.is_jam(2, cells, row, rhythm, side, value)
                            found = shows_jam(2, cells, row, rhythm, side, value)
                            self.assertIs(found, told, (cells, row, rhythm, value))

    def test_all_small_plans(self):
        for number, cells in enumerate(small_lists(2, 2)):
            for row in all_rows(cells, 2)[number % 2::2]:
                for value in product(*[range(cell[0] - 1, cell[0] + 3) for cell in cells]):
                    for rhythm in RHYTHMS[number % 4::4]:
                        for side in SIDES:
                            told = reference.is_plan(cells, row, list(value))
                            told = told and reference.keeps_side(cells, value, rhythm, side)
                            self.assertIs(shows_side_plan(2, cells, row, rhythm, side, list(value)), told)

    def test_some_jams(self):
        for side, value, told in [
            ("inputs", (0, 0, 0), True), ("inputs", (1, 0, 1), False), ("inputs", (0, 1, 0), False),
            ("inputs", (0, 0, 1), False), ("inputs", (0, 0, True), False), ("inputs", [0, 0, 0], False),
            ("inputs", (0, 0), False), ("inputs", (0, 0, 0, 0), False), ("inputs", (0, -1, 0), False),
            ("inputs", (2, 0, 0), False), ("inputs", (-1, 0, 0), False), ("outputs", (0, 0, 0), True),
            ("outputs", (0, 0, 1), False), ("outputs", (1, 0, 0), False),
        ]:
            with self.subTest(side=side, value=value):
                self.assertIs(shows_jam(2, THREE, [0, 1, 1], [0, 2], side, value), told)

    def test_jams_of_many_slots(self):
        for last in (0, 9, LAST, LAST + 1, 10 ** 200 - 1):
            self.assertIs(shows_jam(1, [(0, 0, 0)], [0], [0], "inputs", (0, 0, last)), True)
            self.assertIs(shows_jam(1, [(0, 0, 0)], [0], [0, 1], "inputs", (0, 0, last)), last == 0)
        self.assertIs(shows_jam(1, [(0, 0, 0)], [LAST], [0], "outputs", (0, 0, LAST)), True)
        self.assertIs(shows_jam(1, [(0, 0, 0)], [LAST], [0], "outputs", (0, 0, LAST - 1)), False)
        self.assertIs(shows_jam(1, [(0, 0, 0)], [LAST], [0], "outputs", (0, 1, LAST)), False)
        self.assertIs(shows_jam(1, [(5, 0, 0)], [5], [0], "outputs", (0, 10 ** 200 - 1, 10 ** 200 - 1)), False)

    def test_some_plans(self):
        for rhythm, side, value, told in [
            ([2], "inputs", [0, 1, 1], True), ([1], "inputs", [0, 1, 1], False), ([1], "inputs", [0, 0, 1], True),
            ([1], "outputs", [0, 1, 1], True), ([1], "outputs", [0, 0, 1], False), ([2], "outputs", [0, 0, 1], True),
            ([9], "inputs", [0, 1, 2], False), ([9], "inputs", (0, 1, 1), False), ([1, 2], "inputs", [0, 1, 1], True),
            ([2, 1], "inputs", [0, 1, 1], False), ([2, 1], "outputs", [0, 0, 1], True),
            ([0, 2], "outputs", [0, 1, 1], False), ([9], "inputs", [0, True, 1], False),
        ]:
            with self.subTest(rhythm=rhythm, side=side, value=value):
                self.assertIs(shows_side_plan(2, THREE, [0, 1, 1], rhythm, side, value), told)

    def test_far_plans(self):
        row = far_row([0, 1, 0, 2, 1, 0])
        self.assertIs(shows_side_plan(8, far_cells(), row, [1], "outputs", row), True)
        self.assertIs(shows_side_plan(8, far_cells(), row, [1], "outputs", [cell[0] for cell in far_cells()]), False)
        self.assertIs(shows_side_plan(8, far_cells(), row, [3], "outputs", [cell[0] for cell in far_cells()]), True)
        self.assertIs(shows_side_plan(1, [(0, 0, 0)], [LAST], [0, 1], "inputs", [LAST]), True)
        self.assertIs(shows_side_plan(1, [(0, 0, 0)], [LAST], [0, 1], "inputs", [LAST - 1]), False)
        self.assertIs(shows_side_plan(2, FOUR, [0, 1, 2], [1], "inputs", [0, 1, 2]), True)


class WrongArgumentsTest(TwinTest):

    def test_the_order_of_the_errors(self):
        for function, rest in ((side_plan, []), (jam, []), (shows_side_plan, [None]), (shows_jam, [None])):
            self.assert_raises(InvalidRow, ("index", 2), function, 2, THREE, [0, 1, 0], [], "input", *rest)
            self.assert_raises(InvalidRhythm, ("index", None), function, 2, THREE, [0, 1, 1], [], "input", *rest)
            self.assert_raises(InvalidRhythm, ("index", 1), function, 2, THREE, [0, 1, 1], [0, 10], "input", *rest)
            for side in ("input", "Inputs", "inputs ", "", None, 0, ["inputs"], ("inputs",), {"inputs": 1}, True):
                self.assert_raises(InvalidSide, None, function, 2, THREE, [0, 1, 1], [1], side, *rest)
