"""Points 9, 11 and 21: steady pairings of waiting cells."""

import random
from itertools import combinations, permutations, product

from idealtwin.errors import InvalidNumber, InvalidPicks, InvalidWaiting, TooLarge
from idealtwin.steady import better, disturber, entry_best, is_steady, nth_steady, outlet_best, steady_count, worse
from tests import steady_reference as reference
from tests.helpers import ANY_VALUES, CROSSED, TwinTest

LAST = 10 ** 31 - 1


def some_waiting(seed, many, ports):
    """Return waiting cells, the same ones for equal arguments; ages and leaving slots repeat where they may."""
    source = random.Random(seed)
    spread = source.choice([many, 3 * many, LAST + 1])
    found = []
    while len(found) < many:
        cell = (source.randrange(ports), source.randrange(ports), source.randrange(spread), source.randrange(spread))
        alike = [other for other in found if other[0] == cell[0] and other[2] == cell[2]]
        if not alike and not [other for other in found if other[1] == cell[1] and other[3] == cell[3]]:
            found.append(cell)
    return found


def full_waiting(seed, ports):
    """Return a cell for each input and output, with drawn likings."""
    source = random.Random(seed)
    ages = [source.sample(range(ports), ports) for _ in range(ports)]
    leavings = [source.sample(range(ports), ports) for _ in range(ports)]
    return [(one, other, ages[one][other], leavings[other][one]) for one, other in product(range(ports), repeat=2)]


def turning_waiting(ports):
    """Return the cells in which input k likes the outputs k, k + 1 and so on, and output k the inputs the other way."""
    found = []
    for entry, more in product(range(ports), range(ports)):
        found.append((entry, (entry + more) % ports, ports - more, ports - more))
    return found


class SteadyTest(TwinTest):

    def assert_all_steady(self, waiting):
        """Compare all that is told of a few waiting cells with all their pairings; return the steady ones."""
        steady = reference.all_steady(waiting)
        for picks in reference.all_pairings(waiting):
            self.assertIs(is_steady(waiting, picks), picks in steady, (waiting, picks))
            self.assert_same(disturber(waiting, picks), reference.disturber(waiting, picks))
        self.assert_same(entry_best(waiting), reference.chosen(waiting, steady, max))
        self.assert_same(outlet_best(waiting), reference.chosen(waiting, steady, min))
        self.assertIn(entry_best(waiting), steady)
        self.assertIn(outlet_best(waiting), steady)
        self.assert_same(steady_count(waiting), len(steady))
        self.assert_same([nth_steady(waiting, index) for index in range(len(steady))], steady)
        self.assert_raises(InvalidNumber, None, nth_steady, waiting, len(steady))
        self.assert_raises(InvalidNumber, None, nth_steady, waiting, 10 ** 40 - 1)
        for one, other in product(steady[:6], repeat=2):
            self.assert_same(better(waiting, one, other), reference.chosen(waiting, [one, other], max))
            self.assert_same(worse(waiting, one, other), reference.chosen(waiting, [one, other], min))
            self.assertIn(better(waiting, one, other), steady)
            self.assertIn(worse(waiting, one, other), steady)
        return steady

    def test_no_cells(self):
        self.assert_same([entry_best([]), outlet_best([]), steady_count([]), nth_steady([], 0)], [[], [], 1, []])
        self.assert_same([is_steady([], []), disturber([], [])], [True, None])
        self.assert_same([better([], [], []), worse([], [], [])], [[], []])
        self.assertIs(is_steady([], [0]), False)

    def test_some_cells(self):
        self.assert_same(self.assert_all_steady(CROSSED), [[0, 2], [1, 3]])
        self.assert_same(self.assert_all_steady([(0, 0, 0, 0), (1, 0, 0, 1), (1, 1, 1, 1)]), [[0, 2]])
        self.assert_same(self.assert_all_steady([(7, 7, LAST, LAST)]), [[0]])
        # Two cells of one input and one output: the newer one and the one that leaves earlier.
        self.assert_same(self.assert_all_steady([(3, 4, 0, 0), (3, 4, 1, 1)]), [[0], [1]])
        self.assert_same(self.assert_all_steady([(3, 4, 1, 0), (3, 4, 0, 1)]), [[0]])
        # Ages of unlike inputs, and leaving slots of unlike outputs, can be equal.
        self.assert_same(self.assert_all_steady([(0, 0, 5, 5), (1, 1, 5, 5), (2, 2, 5, 5)]), [[0, 1, 2]])

    def test_few_cells_in_all_likings(self):
        for places in product([(0, 0), (0, 1), (1, 0), (1, 1)], repeat=3):
            for ages, leavings in product(permutations(range(3)), repeat=2):
                self.assert_all_steady([(*place, *likings) for place, likings in zip(places, zip(ages, leavings))])

    def test_all_cells_of_two_ports(self):
        counts = set()
        for ages, leavings in product(permutations(range(4)), repeat=2):
            places = product((0, 1), repeat=2)
            waiting = [(*place, *likings) for place, likings in zip(places, zip(ages, leavings))]
            counts.add(len(self.assert_all_steady(waiting)))
        self.assertEqual(counts, {1, 2})

    def test_some_waiting_cells(self):
        counts = []
        for seed in range(300):
            waiting = some_waiting(seed, seed % 9, 2 + seed % 4)
            counts.append(len(self.assert_all_steady(waiting)))
        for seed in range(150):
            counts.append(len(self.assert_all_steady(full_waiting(seed, 3))))
        for many in (1, 2, 3):
            self.assertIn(many, counts)

    def test_twelve_cells(self):
        for seed in range(10):
            self.assert_all_steady(some_waiting(seed, 12, 4 + seed % 5))
        found = self.assert_all_steady([(port, port, 1, 1) for port in range(8)])
        self.assert_same(found, [list(range(8))])
        # In each of three groups of two inputs and two outputs there are two ways.
        pairs = []
        for group, one, other in product(range(3), (0, 1), (0, 1)):
            pairs.append((2 * group + one, 2 * group + other, int(one == other), int(one == other)))
        self.assertEqual(len(self.assert_all_steady(pairs)), 8)

    def test_more_steady_pairings_of_three_ports(self):
        waiting = turning_waiting(3)
        steady = self.assert_all_steady(waiting)
        self.assertEqual(len(steady), 3)
        self.assert_same(better(waiting, steady[1], steady[2]), steady[1])
        self.assert_same(worse(waiting, steady[0], steady[1]), steady[1])

    def test_better_mixes_two_pairings(self):
        # Two crossed fours side by side: each of two pairings is better for one of them.
        waiting = CROSSED + [(one + 2, other + 2, age, leaving) for one, other, age, leaving in CROSSED]
        self.assert_all_steady(waiting)
        self.assert_same(better(waiting, [0, 2, 5, 7], [1, 3, 4, 6]), [0, 2, 4, 6])
        self.assert_same(worse(waiting, [0, 2, 5, 7], [1, 3, 4, 6]), [1, 3, 5, 7])


class ManyCellsTest(TwinTest):

    def test_24_cells(self):
        for seed in range(200):
            for waiting in (some_waiting(seed, 24, 1 + seed % 8), some_waiting(seed, 13 + seed % 11, 8)):
                self.assert_best(waiting)
        others = [(entry + 4, outlet + 4, *likings) for entry, outlet, *likings in CROSSED]
        self.assert_best(full_waiting(1, 4) + others)
        self.assert_best(turning_waiting(4))
        self.assert_same(entry_best([(0, 0, at, at) for at in range(24)]), [23])
        self.assert_same(outlet_best([(0, 0, at, at) for at in range(24)]), [0])

    def assert_best(self, waiting):
        found = entry_best(waiting)
        self.assert_same(found, reference.by_rounds(waiting))
        back = outlet_best(waiting)
        self.assert_same(back, reference.by_rounds([(cell[1], cell[0], -cell[3], -cell[2]) for cell in waiting]))
        for picks in (found, back):
            self.assertIs(is_steady(waiting, picks), True)
            self.assertIs(disturber(waiting, picks), None)
            self.assertIs(reference.disturber(waiting, picks), None)
        # The same inputs and outputs have cells in all steady pairings.
        for part in (0, 1):
            self.assertEqual({waiting[pick][part] for pick in found}, {waiting[pick][part] for pick in back})
        self.assert_same(better(waiting, found, back), found)
        self.assert_same(better(waiting, back, found), found)
        self.assert_same(worse(waiting, found, back), back)
        for cut in range(len(found)):
            less = found[:cut] + found[cut + 1:]
            self.assertIs(is_steady(waiting, less), False)
            self.assert_same(disturber(waiting, less), reference.disturber(waiting, less))

    def test_too_large_only_where_all_are_counted(self):
        for many in (13, 14, 24):
            waiting = some_waiting(many, many, 8)
            self.assert_raises(TooLarge, ("limit", 12), steady_count, waiting)
            self.assert_raises(TooLarge, ("limit", 12), nth_steady, waiting, 0)
            self.assert_raises(TooLarge, ("limit", 12), nth_steady, waiting, 10 ** 40 - 1)
            self.assert_raises(InvalidNumber, None, nth_steady, waiting, -1)
            self.assert_raises(InvalidNumber, None, nth_steady, waiting, None)
        waiting = [(0, 0, 1, 1)] * 13
        self.assert_raises(InvalidWaiting, ("index", 1), steady_count, waiting)
        self.assert_raises(InvalidWaiting, ("index", 1), nth_steady, waiting, None)
        self.assert_raises(InvalidWaiting, ("index", None), steady_count, [None] * 25)


class AnyValueTest(TwinTest):

    VALUES = [
        [True, 2], [False, 2], [0, True], ["0", "2"], [(0,), (2,)], (0, 2), {"0": 2}, "02", 2, [2, 0], [0, 0, 2],
        [0, 2, 2], [-4, 2], [0, -2], [0, 2, 4], [4], [-1], [0, 2, None], [[0, 2]], [0, 2, 10 ** 200 - 1], [0, 1],
        [0, 3], [2, 3], [1, 2], [0, 1, 2, 3], [3, 1], [0], [1], [2], [3], [], list(range(1000)), [0] * 1000,
    ]

    def test_any_value(self):
        for waiting in (CROSSED, [], [(0, 0, 0, 0)], [(0, 0, 0, 0), (1, 0, 0, 1), (1, 1, 1, 1)]):
            steady = reference.all_steady(waiting)
            for value in ANY_VALUES + self.VALUES:
                before = repr(value)
                told = reference.is_pairing(waiting, value) and value in steady
                self.assertIs(is_steady(waiting, value), told, (waiting, value))
                self.assertEqual(repr(value), before)

    def test_disturber_takes_pairings_only(self):
        for value in ANY_VALUES + self.VALUES:
            if reference.is_pairing(CROSSED, value):
                self.assert_same(disturber(CROSSED, value), reference.disturber(CROSSED, value))
            else:
                self.assert_raises(InvalidPicks, None, disturber, CROSSED, value)

    def test_better_and_worse_take_steady_pairings_only(self):
        for value in ANY_VALUES + self.VALUES:
            if not reference.is_pairing(CROSSED, value) or value not in ([0, 2], [1, 3]):
                for function in (better, worse):
                    self.assert_raises(InvalidPicks, None, function, CROSSED, value, [0, 2])
                    self.assert_raises(InvalidPicks, None, function, CROSSED, [0, 2], value)

    def test_only_the_least_disturber_is_told(self):
        for many in range(1, 8):
            waiting = [(port, port, 0, 0) for port in range(many)]
            for picks in combinations(range(many), many // 2):
                least = min([port for port in range(many) if port not in picks])
                self.assert_same(disturber(waiting, list(picks)), least)
