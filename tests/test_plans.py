"""Points 6 and 16: plans, the speeds and rhythms that crossing slots keep, pairings."""

import random
from itertools import permutations, product

from idealtwin.errors import InvalidCrossings, InvalidRhythm, InvalidSize, InvalidSlot, InvalidSpeeds
from idealtwin.plans import is_plan, keeps_rhythm, keeps_speeds, pairings_at, shows_pairings, speeds_of
from tests import plan_reference as reference
from tests.helpers import (
    ANY_VALUES, FOUR, THREE, TwinTest, all_rows, crowd, far_cells, far_row, small_lists, some_lists, some_row,
)

LAST = 10 ** 31 - 1


class IsPlanTest(TwinTest):

    def test_some_values(self):
        for value, told in [
            ([0, 0, 1], True), ([0, 1, 1], True), ([1, 0, 1], False), ([0, 2, 1], False), ([0, 0, 0], False),
            ([0, 0, 2], False), ([-1, 0, 1], False), ([0, 0], False), ([0, 0, 1, 1], False), ([], False),
        ]:
            with self.subTest(value=value):
                self.assertIs(is_plan(2, THREE, [0, 1, 1], value), told)

    def test_any_value(self):
        for value in ANY_VALUES:
            with self.subTest(value=value):
                self.assertIs(is_plan(2, THREE, [0, 1, 1], value), False)
                self.assertIs(is_plan(2, THREE, [0, 1, 1], [value, 0, 1]), value == 0 and type(value) is int)
                self.assertIs(is_plan(2, THREE, [0, 1, 1], [0, 0, value]), value == 1 and type(value) is int)
                self.assertIs(is_plan(2, [], [], value), value == [])
        for value in [(0, 0, 1), "001", {0: 0, 1: 0, 2: 1}, [0, False, 1], [0, 0, True], [[0, 0, 1]], [[0], [0], [1]]]:
            self.assertIs(is_plan(2, THREE, [0, 1, 1], value), False)

    def test_all_small_values(self):
        for cells in small_lists(2, 2):
            if len(cells) <= 3:
                for row in all_rows(cells, 2):
                    for value in product(range(-1, 4), repeat=len(cells)):
                        told = reference.is_plan(cells, row, list(value))
                        self.assertIs(is_plan(2, cells, row, list(value)), told)

    def test_far_stays(self):
        cells = [(10 ** 29, 0, 0), (10 ** 30 - 1, 1, 1)]
        row = [LAST, 10 ** 30]
        for value, told in [
            ([10 ** 29, 10 ** 30 - 1], True), ([LAST, 10 ** 30], True), ([10 ** 30, 10 ** 30], True),
            ([10 ** 29 - 1, 10 ** 30], False), ([LAST + 1, 10 ** 30], False), ([LAST, 10 ** 30 - 2], False),
            ([LAST, 10 ** 30 + 1], False), ([10 ** 200 - 1, 10 ** 30], False), ([-(10 ** 200 - 1), 10 ** 30], False),
        ]:
            with self.subTest(value=value):
                self.assertIs(is_plan(2, cells, row, value), told)

    def test_60_cells(self):
        row = list(range(60))
        self.assertIs(is_plan(8, crowd(), row, row), True)
        for index in range(60):
            for slot in (index + 1, crowd()[index][0] - 1):
                self.assertIs(is_plan(8, crowd(), row, [*row[:index], slot, *row[index + 1:]]), False)
            coming = crowd()[index][0]
            self.assertIs(is_plan(8, crowd(), row, [*row[:index], coming, *row[index + 1:]]), True)


class SpeedsTest(TwinTest):

    def assert_speeds(self, size, cells, crossings):
        told = (reference.greatest(cells, crossings, 1), reference.greatest(cells, crossings, 2))
        self.assert_same(speeds_of(size, cells, crossings), told)
        for first in {1, 2, max(told[0] - 1, 1), max(told[0], 1), told[0] + 1, 60}:
            for second in {1, max(told[1] - 1, 1), max(told[1], 1), 60}:
                kept = told[0] <= first and told[1] <= second
                self.assertIs(keeps_speeds(size, cells, crossings, (first, second)), kept)

    def test_some_crossing_slots(self):
        self.assert_same(speeds_of(2, THREE, [0, 1, 1]), (2, 1))
        self.assert_same(speeds_of(2, THREE, [0, 0, 1]), (1, 2))
        self.assert_same(speeds_of(2, THREE, [5, 6, 7]), (1, 1))
        self.assert_same(speeds_of(2, FOUR, [1, 1, 1]), (2, 3))
        self.assert_same(speeds_of(2, FOUR, [2, 0, 2]), (2, 2))

    def test_no_cells(self):
        for size in range(1, 9):
            self.assert_same(speeds_of(size, [], []), (0, 0))
            self.assertIs(keeps_speeds(size, [], [], (1, 1)), True)

    def test_all_small_crossing_slots(self):
        for cells in small_lists(2, 2):
            for crossings in product(*[range(cell[0], 3) for cell in cells]):
                self.assert_speeds(2, cells, list(crossings))

    def test_some_larger_crossing_slots(self):
        for seed, cells in enumerate(some_lists(11, 60, 6, 8, 40)):
            for slack in (1, 3, 9):
                source = random.Random(seed)
                self.assert_speeds(6, cells, [cell[0] + source.randrange(slack) for cell in cells])

    def test_60_cells(self):
        self.assert_same(speeds_of(8, crowd(), [9] * 60), (8, 60))
        self.assertIs(keeps_speeds(8, crowd(), [9] * 60, (8, 60)), True)
        self.assertIs(keeps_speeds(8, crowd(), [9] * 60, (8, 59)), False)
        self.assertIs(keeps_speeds(8, crowd(), [9] * 60, (7, 60)), False)
        stream = [(slot, 0, slot % 8) for slot in range(60)]
        self.assert_same(speeds_of(8, stream, [LAST] * 60), (60, 8))
        self.assert_same(speeds_of(8, stream, list(range(60))), (1, 1))

    def test_far_cells(self):
        row = far_row([0, 1, 0, 2, 1, 0])
        self.assert_speeds(8, far_cells(), row)
        self.assert_speeds(8, far_cells(), [cell[0] for cell in far_cells()])
        self.assert_speeds(8, far_cells(), [LAST] * 60)
        self.assert_same(speeds_of(8, far_cells(), [LAST] * 60), (10, 30))


class RhythmTest(TwinTest):

    def test_some_crossing_slots(self):
        for crossings, rhythm, told in [
            ([0, 0, 1], [2, 1], True), ([0, 0, 1], [1, 2], False), ([0, 0, 1], [2], True), ([0, 0, 1], [1], False),
            ([0, 1, 1], [1, 2], True), ([0, 1, 1], [2, 1], False), ([0, 1, 3], [1, 1, 0], True),
            ([0, 1, 2], [1, 1, 0], False), ([2, 3, 4], [0, 0, 1, 1, 1], True), ([2, 3, 5], [0, 0, 1, 1, 1], False),
            ([2, 3, 7], [0, 0, 1, 1, 1], True), ([5, 5, 5], [1, 2, 1, 1], True),
            ([5, 5, 5], [2, 1, 2, 2], False), ([5, 5, 5], [2, 2, 2, 1, 1], True),
        ]:
            with self.subTest(crossings=crossings, rhythm=rhythm):
                self.assertIs(reference.keeps_rhythm(THREE, crossings, rhythm), told)
                self.assertIs(keeps_rhythm(2, THREE, crossings, rhythm), told)

    def test_no_cells(self):
        self.assertIs(keeps_rhythm(3, [], [], [0]), True)
        self.assertIs(keeps_rhythm(3, [], [], [0] * 40), True)

    def test_all_small_crossing_slots(self):
        rhythms = [list(rhythm) for many in (1, 2, 3) for rhythm in product(range(3), repeat=many)]
        for cells in small_lists(2, 2)[::3]:
            for crossings in product(*[range(cell[0], 3) for cell in cells]):
                for rhythm in rhythms[::2]:
                    told = reference.keeps_rhythm(cells, crossings, rhythm)
                    self.assertIs(keeps_rhythm(2, cells, list(crossings), rhythm), told)

    def test_each_side_alone(self):
        self.assertIs(keeps_rhythm(2, [(0, 0, 0), (1, 0, 1)], [1, 1], [1]), False)
        self.assertIs(keeps_rhythm(2, [(0, 0, 0), (0, 1, 0)], [1, 1], [1]), False)
        self.assertIs(keeps_rhythm(2, [(0, 0, 0), (0, 1, 1)], [1, 1], [1]), True)

    def test_60_cells(self):
        row = list(range(60))
        self.assertIs(keeps_rhythm(8, crowd(), row, [1]), True)
        for index in (0, 17, 39):
            self.assertIs(keeps_rhythm(8, crowd(), row, [*[1] * index, 0, *[1] * (39 - index)]), False)
        self.assertIs(keeps_rhythm(8, crowd(), [*row[:-1], 58], [*[1] * 18, 2, *[1] * 21]), True)
        self.assertIs(keeps_rhythm(8, crowd(), [*row[:-1], 58], [*[1] * 17, 2, *[1] * 22]), False)
        heap = [10 + number // 9 for number in range(60)]
        self.assertIs(keeps_rhythm(8, crowd(), heap, [9]), True)
        self.assertIs(keeps_rhythm(8, crowd(), heap, [9, 8]), False)

    def test_far_cells(self):
        row = far_row([0, 1, 0, 2, 1, 0])
        for length in range(1, 41):
            for seed in range(3):
                source = random.Random(length * 3 + seed)
                rhythm = [source.choice([1, 1, 1, 1, 2, 2, 9, seed]) for _ in range(length)]
                told = reference.keeps_rhythm(far_cells(), row, rhythm)
                self.assertIs(keeps_rhythm(8, far_cells(), row, rhythm), told)
        self.assertIs(keeps_rhythm(1, [(10 ** 30 - 1, 0, 0)], [LAST], [0, 1]), True)
        self.assertIs(keeps_rhythm(1, [(10 ** 30 - 1, 0, 0)], [LAST - 1], [0, 1]), False)
        self.assertIs(keeps_rhythm(1, [(10 ** 30 - 1, 0, 0)], [LAST], [0, 0, 0, 0, 0, 0, 1]), LAST % 7 == 6)


class PairingsTest(TwinTest):

    def assert_pairings(self, size, cells, crossings, slot):
        found = pairings_at(size, cells, crossings, slot)
        self.assertTrue(reference.are_pairings(cells, crossings, slot, found), (cells, crossings, slot, found))
        self.assertIs(shows_pairings(size, cells, crossings, slot, found), True)
        self.assertIs(shows_pairings(size, cells, crossings, slot, found[::-1]), True)
        self.assert_same(pairings_at(size, cells, crossings, slot), found)

    def test_some_slots(self):
        self.assert_same(pairings_at(2, THREE, [0, 1, 1], 0), [[0]])
        self.assert_same(sorted(pairings_at(2, THREE, [0, 1, 1], 1)), [[1], [2]])
        self.assert_same(pairings_at(2, THREE, [0, 1, 1], 2), [])
        self.assert_same(pairings_at(2, [(0, 0, 0), (0, 1, 1)], [3, 3], 3), [[0, 1]])
        self.assert_same(pairings_at(2, [(0, 0, 1), (0, 1, 0)], [3, 3], 3), [[0, 1]])
        self.assert_same(sorted(pairings_at(2, [(0, 0, 1), (1, 0, 1)], [3, 3], 3)), [[0], [1]])

    def test_no_cells(self):
        self.assert_same(pairings_at(2, [], [], 0), [])
        self.assert_same(pairings_at(2, [], [], LAST), [])
        self.assertIs(shows_pairings(2, [], [], 0, []), True)
        self.assertIs(shows_pairings(2, [], [], 0, [[]]), False)
        self.assertIs(shows_pairings(2, THREE, [0, 1, 1], 9, []), True)
        self.assertIs(shows_pairings(2, THREE, [0, 1, 1], 9, [[]]), False)

    def test_all_small_lists_at_once(self):
        for cells in small_lists(2, 3) + small_lists(3, 1):
            self.assert_pairings(3, cells, [9] * len(cells), 9)

    def test_cells_where_others_have_to_change(self):
        for outlets in permutations([0, 0, 1, 1, 2, 2]):
            cells = [(number // 3, number % 3, outlet) for number, outlet in enumerate(outlets)]
            self.assert_pairings(3, cells, [2] * 6, 2)

    def test_60_cells_at_once(self):
        for seed in range(60):
            source = random.Random(seed)
            size = source.choice([3, 5, 8])
            outlets = source.choice([1, 2, size])
            cells = [(number // size, number % size, source.randrange(outlets)) for number in range(60)]
            self.assert_pairings(size, cells, [LAST] * 60, LAST)
        self.assert_same(len(pairings_at(8, crowd(), [60] * 60, 60)), 60)
        even = [(number // 8, number % 8, (number // 8 + number) % 8) for number in range(56)]
        self.assert_same(len(pairings_at(8, even, [60] * 56, 60)), 7)

    def test_each_slot_of_some_lists(self):
        for seed, cells in enumerate(some_lists(12, 60, 4, 12, 40)):
            source = random.Random(seed)
            crossings = [max(cell[0], source.choice([3, 7, 12])) for cell in cells]
            for slot in range(14):
                self.assert_pairings(4, cells, crossings, slot)

    def test_far_cells(self):
        row = far_row([0, 1, 0, 2, 1, 0])
        for slot in sorted(set(row)) + [LAST, 10 ** 28]:
            self.assert_pairings(8, far_cells(), row, slot)
        for slot in (10 ** 29, LAST):
            self.assert_pairings(8, far_cells(), [max(cell[0], slot) for cell in far_cells()], slot)


class ShowsPairingsTest(TwinTest):

    def test_any_value(self):
        for value in ANY_VALUES:
            with self.subTest(value=value):
                self.assertIs(shows_pairings(2, THREE, [0, 1, 1], 1, value), False)
                self.assertIs(shows_pairings(2, THREE, [0, 1, 1], 1, [[2], value]), repr(value) == "[1]")
                self.assertIs(shows_pairings(2, THREE, [0, 1, 1], 1, [[2], [value]]), value == 1 and type(value) is int)
                self.assertIs(shows_pairings(2, THREE, [0, 1, 1], 9, value), value == [])

    def test_some_values(self):
        cells = [(0, 0, 0), (0, 1, 1), (1, 0, 1), (1, 1, 0), (2, 0, 0)]
        crossings = [2, 2, 2, 2, 7]
        for value, told in [
            ([[0, 1], [2, 3]], True), ([[2, 3], [0, 1]], True), ([[1, 0], [2, 3]], False), ([[0, 1], [3, 2]], False),
            ([[0], [1], [2, 3]], False), ([[0, 1], [2, 3], []], False), ([[0, 1, 2, 3]], False), ([[0, 1]], False),
            ([[0, 1], [2]], False), ([[0, 1], [2, 3, 4]], False), ([[0, 2], [1, 3]], False), ([[0, 3], [1, 2]], False),
            ([[0, 1], [0, 1]], False), ([[0, 0, 1], [2, 3]], False), ([[0, 1], (2, 3)], False),
            (([0, 1], [2, 3]), False), ([[False, 1], [2, 3]], False), ([[0, True], [2, 3]], False),
            ([[0, 1], [2, 10 ** 200 - 1]], False), ([[0, 1], [2, -1]], False), ([[0, 1], [-3, -2]], False),
            ([[0, 1], [[2], [3]]], False), ([[0, 1], "23"], False), ([[0, 1], None], False), ([[0, 1], {2: 3}], False),
            ([[0, 1], [2, "3"]], False), ([[0, 1], [2, 5]], False), ([[0, 1], [2, 4]], False),
        ]:
            with self.subTest(value=value):
                self.assertIs(reference.are_pairings(cells, crossings, 2, value), told)
                self.assertIs(shows_pairings(2, cells, crossings, 2, value), told)

    def test_all_small_values(self):
        pairings = [list(indices) for many in (0, 1, 2) for indices in product(range(3), repeat=many)]
        for cells in small_lists(2, 2):
            if len(cells) <= 3:
                for crossings in ([1] * len(cells), [1, 2, 2][:len(cells)], [2, 1, 1][:len(cells)]):
                    for many in (0, 1, 2):
                        for value in product(pairings, repeat=many):
                            told = reference.are_pairings(cells, crossings, 1, list(value))
                            self.assertIs(shows_pairings(2, cells, crossings, 1, list(value)), told)

    def test_60_cells(self):
        value = [[number] for number in range(60)]
        self.assertIs(shows_pairings(8, crowd(), [9] * 60, 9, value), True)
        for index in range(60):
            self.assertIs(shows_pairings(8, crowd(), [9] * 60, 9, value[:index] + value[index + 1:]), False)
            other = [*value[:index], [59 - index], *value[index + 1:]]
            self.assertIs(shows_pairings(8, crowd(), [9] * 60, 9, other), False)


class WrongArgumentsTest(TwinTest):

    def test_wrong_arguments(self):
        self.assert_raises(InvalidSize, None, speeds_of, 9, THREE, [0, 1, 1])
        self.assert_raises(InvalidCrossings, ("index", 2), speeds_of, 2, THREE, [0, 1, 0])
        self.assert_raises(InvalidCrossings, ("index", 1), keeps_speeds, 2, THREE, [0, 10 ** 31, 0], (0, 0))
        self.assert_raises(InvalidSpeeds, None, keeps_speeds, 2, THREE, [0, 1, 1], (1, 61))
        self.assert_raises(InvalidRhythm, ("index", 40 - 1), keeps_rhythm, 2, THREE, [0, 1, 1], [1] * 39 + [10])
        self.assert_raises(InvalidRhythm, ("index", None), keeps_rhythm, 2, THREE, [0, 1, 1], [1] * 41)
        self.assert_raises(InvalidSlot, None, pairings_at, 2, THREE, [0, 1, 1], 10 ** 31)
        self.assert_raises(InvalidSlot, None, shows_pairings, 2, THREE, [0, 1, 1], -1, None)

    def test_crossing_slots_may_be_later_than_all_rows(self):
        self.assert_same(speeds_of(2, THREE, [LAST, LAST, LAST]), (2, 2))
        self.assert_same(pairings_at(2, [(0, 0, 0)], [LAST], LAST), [[0]])

    def test_a_row_may_be_any_row(self):
        for seed, cells in enumerate(some_lists(13, 40, 4, 6, 20)):
            row = some_row(seed, cells, 5)
            self.assertIs(is_plan(4, cells, row, row), True)
            self.assertIs(is_plan(4, cells, row, [cell[0] for cell in cells]), True)
