"""Points 14 and 23: which busy rows crossing slots serve."""

import random
from itertools import product

from idealtwin.errors import Impossible, InvalidCrossings, InvalidNumber, InvalidRow, NotBusy
from idealtwin.rows import busy_count, busy_index, busy_slots, first_come, is_busy, last_come, nth_busy
from idealtwin.serving import both_count, nth_served, served_count, served_index, serves, serves_some, starved
from idealtwin.twins import twin_plan
from tests import reference
from tests.helpers import FOUR, THREE, TwinTest, all_rows, crowd, far_cells, small_lists, some_lists

LAST = 10 ** 31 - 1


def are_served(crossings, row):
    """Return whether all cells cross by their leaving slots."""
    return not [1 for crossing, leaving in zip(crossings, row) if crossing > leaving]


def first_starved(size, cells, crossings):
    """Return the least (slot, outlet) of a busy slot by which too few cells of the output have crossed."""
    found = []
    for outlet in range(size):
        own = [crossing for crossing, cell in zip(crossings, cells) if cell[2] == outlet]
        for many, slot in enumerate(busy_slots(size, cells, outlet)):
            if len([1 for crossing in own if crossing <= slot]) < many + 1:
                found.append((slot, outlet))
    return min(found, default=None)


def some_crossings(seed, cells, row):
    """Return drawn crossing slots that serve most rows, and often the one that is passed."""
    source = random.Random(seed)
    found = []
    for cell, leaving in zip(cells, row):
        found.append(source.choice([cell[0], leaving, source.randint(cell[0], leaving + 1)]))
    return found


class ServedTest(TwinTest):

    def assert_served(self, size, cells, crossings, rows=None):
        """Compare all that is told of crossing slots with all busy rows; return those that they serve."""
        rows = rows or reference.busy_rows(size, cells)
        told = [row for row in rows if are_served(crossings, row)]
        self.assert_same(served_count(size, cells, crossings), len(told))
        self.assert_same([nth_served(size, cells, crossings, index) for index in range(len(told))], told)
        self.assert_same([served_index(size, cells, crossings, row) for row in told], list(range(len(told))))
        for index in (len(told), len(told) + 1, 10 ** 40 - 1):
            self.assert_raises(InvalidNumber, None, nth_served, size, cells, crossings, index)
        for row in rows:
            self.assertIs(serves(size, cells, crossings, row), row in told)
            if row not in told:
                self.assert_raises(Impossible, None, served_index, size, cells, crossings, row)
        self.assert_same(starved(size, cells, crossings), first_starved(size, cells, crossings))
        self.assertIs(serves_some(size, cells, crossings), told != [])
        self.assertIs(starved(size, cells, crossings) is None, told != [])
        return told

    def test_no_cells(self):
        self.assert_same(self.assert_served(2, [], []), [[]])
        self.assert_same(both_count(2, [], [], []), 1)

    def test_some_cells(self):
        self.assert_same(self.assert_served(2, FOUR, [1, 0, 1]), [[1, 0, 2], [2, 0, 1]])
        self.assert_same(self.assert_served(2, FOUR, [0, 0, 1]), [[0, 1, 2], [0, 2, 1], [1, 0, 2], [2, 0, 1]])
        self.assert_same(self.assert_served(2, FOUR, [0, 1, 1]), [[0, 1, 2], [0, 2, 1]])
        self.assert_same(self.assert_served(2, FOUR, [0, 2, 1]), [[0, 2, 1]])
        for crossings in ([1, 1, 1], [0, 2, 2], [LAST, LAST, LAST], [0, 1, 3]):
            self.assert_same(self.assert_served(2, FOUR, crossings), [])

    def test_the_first_starved_output(self):
        cells = [(0, 0, 1), (0, 1, 0), (1, 0, 1), (1, 1, 1)]
        for crossings, told in [
            ([0, 0, 1, 1], None), ([1, 1, 1, 1], (0, 0)), ([1, 0, 1, 1], (0, 1)), ([0, 1, 1, 1], (0, 0)),
            ([0, 0, 2, 2], (1, 1)), ([0, 0, 3, 1], (2, 1)), ([0, 0, 2, 1], None), ([0, 0, 9, 9], (1, 1)),
        ]:
            self.assert_same(starved(2, cells, crossings), told)

    def test_all_crossings_of_small_lists(self):
        for number, cells in enumerate(small_lists(2, 2)):
            rows = reference.busy_rows(2, cells)
            ranges = [range(cell[0], cell[0] + 4) for cell in cells]
            for crossings in list(product(*ranges))[number % 3::3]:
                self.assert_served(2, cells, list(crossings), rows)

    def test_some_lists(self):
        counts = []
        for size, slots in [(2, 4), (3, 3), (1, 6), (4, 2)]:
            for seed, cells in enumerate(some_lists(91, 20, size, slots, 6)):
                rows = reference.busy_rows(size, cells)
                for row in (rows[0], rows[-1], rows[len(rows) // 2]):
                    counts.append(len(self.assert_served(size, cells, some_crossings(seed, cells, row), rows)))
        self.assertIn(0, counts)
        self.assertGreater(max(counts), 10)

    def test_both(self):
        for seed, cells in enumerate(some_lists(92, 60, 3, 3, 6)):
            rows = reference.busy_rows(3, cells)
            one, other = some_crossings(seed, cells, rows[0]), some_crossings(seed + 1, cells, rows[-1])
            told = len([row for row in rows if are_served(one, row) and are_served(other, row)])
            self.assert_same(both_count(3, cells, one, other), told)
            self.assert_same(both_count(3, cells, other, one), told)
            self.assert_same(both_count(3, cells, one, one), served_count(3, cells, one))

    def test_early_crossings_serve_all_busy_rows(self):
        for cells in some_lists(93, 40, 3, 4, 12) + [crowd(), far_cells()]:
            coming = [cell[0] for cell in cells]
            self.assert_same(served_count(8, cells, coming), busy_count(8, cells))
            for index in (0, busy_count(8, cells) // 3, busy_count(8, cells) - 1):
                row = nth_busy(8, cells, index)
                self.assert_same(nth_served(8, cells, coming, index), row)
                self.assert_same(served_index(8, cells, coming, row), index)

    def test_serves_takes_rows_that_are_not_busy(self):
        for cells in small_lists(2, 1):
            for row in all_rows(cells, 3):
                for crossings in product(range(3), repeat=len(cells)):
                    self.assertIs(serves(2, cells, list(crossings), row), are_served(crossings, row))
        self.assertIs(serves(2, THREE, [0, 2, 1], [0, 2, 1]), True)
        self.assertIs(serves(2, THREE, [LAST, 0, 1], [LAST - 1, 2, 1]), False)


class ManyCellsTest(TwinTest):

    def assert_there_and_back(self, cells, crossings, seed):
        count = served_count(8, cells, crossings)
        source = random.Random(seed)
        indices = {0, count - 1, count // 2} | {source.randrange(count) for _ in range(10)}
        rows = []
        for index in sorted(indices):
            row = nth_served(8, cells, crossings, index)
            self.assertIs(is_busy(8, cells, row), True)
            self.assertIs(serves(8, cells, crossings, row), True)
            self.assert_same(served_index(8, cells, crossings, row), index)
            rows.append(busy_index(8, cells, row))
        # They keep the sequence that all busy rows have.
        self.assertEqual(rows, sorted(set(rows)))
        self.assert_raises(InvalidNumber, None, nth_served, 8, cells, crossings, count)
        return count

    def test_60_cells(self):
        for seed, cells in enumerate(some_lists(94, 15, 8, 9, 60) + [crowd()] * 3):
            for row in (first_come(8, cells), last_come(8, cells)):
                self.assert_there_and_back(cells, twin_plan(8, cells, row), seed)
                self.assert_there_and_back(cells, [cell[0] for cell in cells], seed)
                self.assert_there_and_back(cells, row, seed)
        self.assert_same(self.assert_there_and_back(crowd(), first_come(8, crowd()), 1), 1)

    def test_60_cells_in_slots_of_30_digits(self):
        cells = far_cells()
        for seed in range(20):
            row = nth_busy(8, cells, busy_count(8, cells) * seed // 20)
            crossings = [max(cell[0], leaving - seed // 5) for cell, leaving in zip(cells, row)]
            count = self.assert_there_and_back(cells, crossings, seed)
            self.assertGreaterEqual(count, 1)
            self.assert_same(both_count(8, cells, crossings, row), 1)
            crossings[59] = LAST
            self.assert_same(served_count(8, cells, crossings), 0)
            self.assert_same(starved(8, cells, crossings), (row[59], cells[59][2]))
            self.assert_raises(InvalidNumber, None, nth_served, 8, cells, crossings, 0)
        shifted = [(slot + 10 ** 29, entry, outlet) for slot, entry, outlet in cells[:54]]
        self.assert_there_and_back(shifted, first_come(8, shifted), 7)


class WrongArgumentsTest(TwinTest):

    def test_not_busy_ahead_of_impossible(self):
        self.assert_raises(NotBusy, None, served_index, 2, THREE, [0, 0, 1], [0, 2, 1])
        self.assert_raises(NotBusy, None, served_index, 2, THREE, [LAST, LAST, LAST], [0, 2, 1])
        self.assert_raises(Impossible, None, served_index, 2, THREE, [LAST, LAST, LAST], [0, 1, 1])
        self.assert_raises(Impossible, None, served_index, 2, THREE, [0, 1, 1], [1, 0, 1])
        self.assert_raises(InvalidRow, ("index", 1), served_index, 2, THREE, [LAST, LAST, LAST], [0, 0, 1])

    def test_crossings_ahead_of_rows(self):
        for function in (serves, served_index):
            self.assert_raises(InvalidCrossings, ("index", 2), function, 2, THREE, [0, 0, 0], [0, 0, 1])
            self.assert_raises(InvalidCrossings, ("index", None), function, 2, THREE, [0], None)
            self.assert_raises(InvalidRow, ("index", None), function, 2, THREE, [0, 0, 1], None)

    def test_the_first_of_both_crossings(self):
        self.assert_raises(InvalidCrossings, ("index", 0), both_count, 2, THREE, [-1, 0, 1], [0, -1, 1])
        self.assert_raises(InvalidCrossings, ("index", 1), both_count, 2, THREE, [0, 0, 1], [0, -1, 1])
        self.assert_raises(InvalidCrossings, ("index", None), both_count, 2, THREE, [0, 0, 1], [0, 0])
