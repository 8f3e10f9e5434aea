"""Points 9 and 20: which rhythms are always enough, which ones fail."""

import random
from itertools import product

from idealtwin.errors import InvalidNumber, InvalidRhythm, InvalidSize
from idealtwin.plans import is_plan, keeps_rhythm
from idealtwin.rhythms import breaking, rhythm_word, unsure
from idealtwin.rows import is_cells, is_row
from tests import plan_reference as reference
from tests.helpers import (
    FOUR, THREE, TwinTest, all_rows, crowd, far_cells, far_row, small_lists, some_lists, some_row,
)

LAST = 10 ** 31 - 1
LONGEST = 10 ** 30
SMALL = [list(rhythm) for many in (1, 2, 3) for rhythm in product(range(5), repeat=many)]


def some_rhythm(seed, numbers):
    source = random.Random(seed)
    return [source.choice(numbers) for _ in range(source.choice([1, 2, 3, 5, 8, 13, 40]))]


class UnsureTest(TwinTest):

    def assert_unsure(self, size, cells, row, rhythm):
        """Compare with the pairings counted slot by slot."""
        told = []
        for index, (cell, leaving) in enumerate(zip(cells, row)):
            if not reference.has_enough(rhythm, cell[0], leaving - cell[0] + 1):
                told.append(index)
        self.assert_same(unsure(size, cells, row, rhythm), told)

    def test_some_rows(self):
        for cells, row, rhythm, told in [
            (THREE, [0, 1, 1], [1], [1]), (THREE, [0, 1, 1], [1, 2], []), (THREE, [0, 1, 1], [2, 1], []),
            (THREE, [0, 1, 1], [2], []), (THREE, [0, 1, 1], [0], [0, 1, 2]), (THREE, [0, 1, 1], [3, 0], [2]),
            (THREE, [0, 1, 1], [0, 3], [0]), (THREE, [0, 1, 1], [0, 2], [0, 1]), (FOUR, [0, 1, 2], [1], [1, 2]),
            (FOUR, [0, 1, 2], [1, 2, 1], []), (FOUR, [0, 2, 1], [1, 2, 1], [1]), (FOUR, [2, 1, 3], [1, 2, 2], []),
            (FOUR, [2, 1, 3], [2, 2, 1], []), (FOUR, [1, 2, 3], [2, 1, 1], [1, 2]),
        ]:
            with self.subTest(row=row, rhythm=rhythm):
                self.assert_same(unsure(2, cells, row, rhythm), told)

    def test_no_cells(self):
        self.assert_same(unsure(2, [], [], [0]), [])

    def test_all_small_rows(self):
        for number, cells in enumerate(small_lists(2, 2)):
            for row in all_rows(cells, 4)[number % 3::3]:
                for rhythm in SMALL[number % 11::11]:
                    self.assert_unsure(2, cells, row, rhythm)

    def test_some_larger_rows(self):
        for seed, cells in enumerate(some_lists(51, 60, 6, 9, 40)):
            for slack in (1, 5, 50):
                row = some_row(seed, cells, slack)
                self.assert_unsure(6, cells, row, some_rhythm(seed, [0, 1, 2, 2, 3, 9]))
                self.assert_unsure(6, cells, row, some_rhythm(seed, [1, 2, 2, 2, 2, 3]))

    def test_60_cells(self):
        self.assert_same(unsure(8, crowd(), list(range(60)), [2]), [])
        row = list(range(60))
        told = [index for index in range(60) if index - index // 8 >= 1]
        self.assert_same(unsure(8, crowd(), row, [1]), told)
        for seed in range(20):
            self.assert_unsure(8, crowd(), row, some_rhythm(seed, [1, 2, 3]))

    def test_far_cells(self):
        row = far_row([0, 1, 0, 2, 1, 0])
        for seed in range(60):
            self.assert_unsure(8, far_cells(), row, some_rhythm(seed, [0, 1, 2, 3]))

    def test_long_stays(self):
        cells = [(0, 0, 0), (0, 1, 0), (7, 0, 1), (10 ** 30 - 1, 1, 1)]
        row = [LAST, 10 ** 30 - 1, 10 ** 30 + 3, LAST]
        for rhythm in ([2], [1, 3], [3, 1], [1, 2], [2, 2, 1], [3, 3, 0], [0, 4], [1, 1, 9], [1] * 39 + [9], [2] * 40,
                       [2] * 39 + [1], [0] * 39 + [9], [9] + [0] * 39, [3] * 20 + [1] * 20, [1] * 20 + [3] * 20):
            told = []
            for index, (cell, leaving) in enumerate(zip(cells, row)):
                if reference.pairings_within(rhythm, cell[0], leaving) < 2 * (leaving - cell[0] + 1) - 1:
                    told.append(index)
            with self.subTest(rhythm=rhythm):
                self.assert_same(unsure(2, cells, row, rhythm), told)
        self.assert_same(unsure(2, cells, row, [2]), [])
        self.assert_same(unsure(2, cells, row, [2, 2, 1]), [0, 1, 2, 3])
        self.assert_same(unsure(1, [(0, 0, 0)], [10 ** 30 - 1], [1, 3]), [])
        self.assert_same(unsure(1, [(0, 0, 0)], [10 ** 30], [1, 3]), [])
        self.assert_same(unsure(1, [(1, 0, 0)], [10 ** 30 + 1], [0, 4]), [])
        self.assert_same(unsure(1, [(0, 0, 0)], [10 ** 30], [0, 4]), [0])
        self.assert_same(unsure(1, [(0, 0, 0)], [10 ** 30 - 1], [3, 1]), [])


class RhythmWordTest(TwinTest):

    def test_some_rhythms(self):
        for size, rhythm, longest, word in [
            (2, [1], 1, "sure"), (2, [1], 2, "fails"), (2, [1, 2], 2, "sure"), (2, [1, 2], 3, "open"),
            (1, [1], 9, "sure"), (8, [2, 1], 2, "sure"), (8, [1, 1], 2, "fails"),
            (2, [2], LONGEST, "sure"), (2, [2, 1], 2, "sure"), (2, [2, 1], 3, "open"), (2, [2, 1, 1], 2, "fails"),
            (2, [1, 2, 1], 2, "fails"), (2, [1, 1, 2], 2, "fails"), (2, [1, 2, 1], 1, "sure"),
            (1, [1, 1, 2], 2, "sure"), (1, [0], 1, "fails"), (1, [1, 0], 1, "fails"), (8, [9, 9, 0], 1, "fails"),
            (2, [1, 3], LONGEST, "sure"), (2, [3, 1], LONGEST, "sure"), (2, [3, 1, 1], LONGEST, "fails"),
            (2, [1, 2, 2], 3, "sure"), (2, [1, 2, 2], 4, "open"), (2, [1, 2, 2, 3], LONGEST, "sure"),
            (2, [1, 3, 1, 2], 2, "sure"), (2, [1, 3, 1, 2], 3, "open"), (2, [1, 3, 1, 2, 1, 9], 3, "open"),
            (8, [2] * 40, LONGEST, "sure"), (8, [2] * 39 + [1], LONGEST, "open"), (8, [2] * 39 + [1], 40, "sure"),
            (8, [2] * 39 + [1], 41, "open"), (8, [2] * 38 + [1, 3], LONGEST, "sure"), (1, [1], LONGEST, "sure"),
            (8, [9] * 40, LONGEST, "sure"), (3, [3, 1, 2, 1, 3], LONGEST, "open"), (3, [3, 1, 2, 1, 3], 2, "sure"),
        ]:
            with self.subTest(size=size, rhythm=rhythm, longest=longest):
                self.assert_same(rhythm_word(size, rhythm, longest), word)

    def test_all_small_rhythms(self):
        for rhythm in SMALL:
            for size in (1, 2, 3, 8):
                for longest in range(1, 11):
                    told = reference.rhythm_word(size, rhythm, longest)
                    self.assert_same(rhythm_word(size, rhythm, longest), told)
                # More slots than some rounds tell nothing new.
                told = reference.rhythm_word(size, rhythm, 20)
                for longest in (20, 21, 10 ** 29, LONGEST - 1, LONGEST):
                    self.assert_same(rhythm_word(size, rhythm, longest), told)

    def test_some_longer_rhythms(self):
        words = []
        for seed in range(150):
            source = random.Random(seed)
            rhythm = [source.choice([1, 2, 2, 2, 3]) for _ in range(source.choice([4, 6, 9, 20]))]
            if seed % 3 == 0:
                rhythm = [2] * source.randint(0, 30) + [source.choice([1, 3]), 2, 2, source.choice([1, 2, 3])]
            for longest in (1, 2, 3, len(rhythm), len(rhythm) + 1, 2 * len(rhythm) - 1, 2 * len(rhythm)):
                told = reference.rhythm_word(2, rhythm, longest)
                self.assert_same(rhythm_word(2, rhythm, longest), told)
                words.append(told)
            told = reference.rhythm_word(2, rhythm, 3 * len(rhythm))
            self.assert_same(rhythm_word(2, rhythm, LONGEST), told)
        for word in ("fails", "sure", "open"):
            self.assertGreater(words.count(word), 50)

    def test_the_slots_at_which_it_gets_open(self):
        # A 1 alone leaves 2 * n - 1 pairings, so there are too few as soon as it is counted twice.
        for length in range(2, 41):
            for at in {0, 1, length // 2, length - 1}:
                rhythm = [2] * length
                rhythm[at] = 1
                self.assert_same(rhythm_word(2, rhythm, length), "sure")
                self.assert_same(rhythm_word(2, rhythm, length + 1), "open")

    def test_the_last_number_and_the_first_one_are_neighbours(self):
        self.assert_same(rhythm_word(2, [1, 2, 2, 1], 2), "fails")
        self.assert_same(rhythm_word(2, [1, 2, 2, 2], 2), "sure")
        self.assert_same(rhythm_word(2, [1, 9, 9, 1], 5), "fails")
        self.assert_same(rhythm_word(1, [1, 9, 9, 1], 5), "sure")

    def test_wrong_arguments(self):
        for function in (rhythm_word, breaking):
            for longest in (0, -1, LONGEST + 1, 10 ** 200 - 1, None, True, "1", [1], (1,), {}):
                self.assert_raises(InvalidNumber, None, function, 2, [1], longest)
                self.assert_raises(InvalidNumber, None, function, 1, [0], longest)
            self.assert_raises(InvalidRhythm, ("index", None), function, 2, [], 0)
            self.assert_raises(InvalidRhythm, ("index", 1), function, 2, [1, 10, -1], 0)
            self.assert_raises(InvalidSize, None, function, 0, [], 0)


class BreakingTest(TwinTest):

    def assert_breaking(self, size, rhythm, longest):
        found = breaking(size, rhythm, longest)
        if rhythm_word(size, rhythm, longest) != "fails":
            self.assertIs(found, None)
            return
        self.assertEqual([type(found), len(found)], [tuple, 2])
        cells, row = found
        self.assertTrue(is_cells(size, cells) and is_row(size, cells, row))
        self.assertLessEqual(max(leaving - cell[0] + 1 for cell, leaving in zip(cells, row)), longest)
        plans = reference.all_plans(cells, row)
        for plan in plans:
            self.assertIs(is_plan(size, cells, row, plan), True)
            self.assertIs(keeps_rhythm(size, cells, plan, rhythm), False)
        if 0 in rhythm:
            slot = rhythm.index(0)
            self.assert_same(found, ([(slot, 0, 0)], [slot]))
        else:
            sums = [first + second for first, second in zip(rhythm, rhythm[1:] + rhythm[:1])]
            slot = [number <= 2 for number in sums].index(True)
            self.assert_same(found, ([(slot, 0, 0), (slot, 1, 0), (slot + 1, 1, 1)], [slot, slot + 1, slot + 1]))

    def test_some_rhythms(self):
        for size, rhythm, longest, told in [
            (2, [1], 2, ([(0, 0, 0), (0, 1, 0), (1, 1, 1)], [0, 1, 1])), (2, [2, 0], 1, ([(1, 0, 0)], [1])),
            (2, [2, 1, 1], 5, ([(1, 0, 0), (1, 1, 0), (2, 1, 1)], [1, 2, 2])), (2, [1, 2], 9, None), (2, [1], 1, None),
            (1, [1], 9, None), (1, [0], 1, ([(0, 0, 0)], [0])), (8, [1, 0, 0, 1], LONGEST, ([(1, 0, 0)], [1])),
            (2, [1, 2, 2, 1], 2, ([(3, 0, 0), (3, 1, 0), (4, 1, 1)], [3, 4, 4])), (1, [1, 1], LONGEST, None),
            (3, [2, 1, 1, 1], 2, ([(1, 0, 0), (1, 1, 0), (2, 1, 1)], [1, 2, 2])), (2, [2], LONGEST, None),
            (2, [9] * 39 + [0], LONGEST, ([(39, 0, 0)], [39])),
            (2, [1] + [9] * 38 + [1], LONGEST, ([(39, 0, 0), (39, 1, 0), (40, 1, 1)], [39, 40, 40])),
        ]:
            with self.subTest(size=size, rhythm=rhythm, longest=longest):
                self.assert_same(breaking(size, rhythm, longest), told)

    def test_all_small_rhythms(self):
        for rhythm in SMALL:
            for size in (1, 2, 8):
                for longest in (1, 2, 3, LONGEST):
                    self.assert_breaking(size, rhythm, longest)

    def test_some_longer_rhythms(self):
        for seed in range(60):
            for numbers in ([0, 1, 2, 3], [1, 2, 3], [1, 2, 2, 2, 9]):
                self.assert_breaking(3, some_rhythm(seed, numbers), LONGEST)

    def test_each_call_returns_new_lists(self):
        for rhythm in ([1], [0]):
            cells, row = breaking(2, rhythm, 2)
            expected = repr((cells, row))
            cells.append("changed")
            row.append("changed")
            self.assertEqual(repr(breaking(2, rhythm, 2)), expected)
