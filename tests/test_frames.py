"""Points 10, 24 and 25: frames that come again, walked slot by slot for a few rounds, and over very many."""

import random
from itertools import combinations, product

from idealtwin.errors import InvalidFrame, InvalidNumber, InvalidPort, InvalidSize, InvalidSlot, TooLarge
from idealtwin.frames import (
    clash_pairs, clear_rounds, first_clash, is_frame, leaving_of, left_over, sender_at, unrolled,
)
from idealtwin.rows import first_come, is_cells
from idealtwin.slowsides import clashes
from tests.helpers import ANY_VALUES, THREE, TwinTest, crowd, small_lists

MOST = 10 ** 30
EVEN = (2, THREE)
PAIR = (1, [(0, 0, 0), (0, 1, 0)])
MIXED = (2, [(0, 0, 0), (0, 1, 0), (1, 0, 1), (1, 1, 0)])


def some_frame(seed, size, most):
    """Return a frame, the same one for equal arguments; few outputs get most of the cells."""
    source = random.Random(seed)
    length = source.choice([1, 2, 3, 4, 5, 7, 12])
    places = [(slot, entry) for slot in range(length) for entry in range(size)]
    chosen = sorted(source.sample(places, source.randint(0, min(most, len(places)))))
    outlets = [source.randrange(size) for _ in range(source.randint(1, size + 2))]
    return length, [(*place, source.choice(outlets)) for place in chosen]


def walked(size, frame, rounds):
    """Return the tuples (slot, outlet, round, index) in which cells of so many rounds leave, slot by slot."""
    length, cells = frame
    queues = {outlet: [] for outlet in range(size)}
    found = []
    slot = 0
    while slot < rounds * length or any(queues.values()):
        for index, cell in enumerate(cells):
            if slot < rounds * length and cell[0] == slot % length:
                queues[cell[2]].append((slot // length, index))
        for outlet in range(size):
            if queues[outlet]:
                found.append((slot, outlet, *queues[outlet].pop(0)))
        slot += 1
    return found


def clashing(frame, told):
    """Return the tuples (slot, entry, later round) of all pairs of cells of an input that leave in one slot."""
    found = []
    slots = {}
    for slot, _, turn, index in told:
        slots.setdefault((slot, frame[1][index][1]), []).append(turn)
    for (slot, entry), turns in slots.items():
        found += [(slot, entry, max(pair)) for pair in combinations(turns, 2)]
    return sorted(found)


class FrameTest(TwinTest):

    def test_some_values(self):
        for value, told in [
            (EVEN, True), (PAIR, True), (MIXED, True), ((1, THREE), False), ((1, []), True), ((40, []), True),
            ((0, []), False), ((41, []), False), ((2, THREE[:2]), True), ((2, [(2, 0, 0)]), False),
            ((3, [(2, 1, 1)]), True), ([2, THREE], False),
            ((2, tuple(THREE)), False), ((2, [(0, 2, 0)]), False), ((2, [(0, 0, 2)]), False), ((True, []), False),
            ((2, [(0, 1, 0), (0, 0, 0)]), False), ((2, THREE, 0), False), ((2,), False), (2, False), ((2, None), False),
            ((40, [(39, 1, 1)]), True), ((40, [(40, 1, 1)]), False), ((2, [(True, 0, 0)]), False),
            (("2", THREE), False),
            ((2, THREE + [None]), False), ((None, THREE), False), ((2, {}), False), ((2, ""), False), ((2, ()), False),
        ]:
            self.assertIs(is_frame(2, value), told, value)
        self.assertIs(is_frame(8, (40, [(slot, 0, 0) for slot in range(40)])), True)
        self.assertIs(is_frame(8, (8, crowd())), True)
        self.assertIs(is_frame(8, (7, crowd())), False)
        self.assertIs(is_frame(8, (8, crowd() + [(7, 4, 5)])), False)
        self.assertIs(is_frame(1, EVEN), False)

    def test_any_value(self):
        for value in ANY_VALUES:
            pairs = [(value, THREE), (2, value), (2, [value]), (2, THREE + [value]), [2, value], (value, value)]
            for inner in [value, *pairs]:
                before = repr(inner)
                length_fits = type(inner) is tuple and len(inner) == 2 and type(inner[0]) is int and 1 <= inner[0] <= 40
                fits = length_fits and is_cells(2, inner[1]) and all(cell[0] < inner[0] for cell in inner[1])
                self.assertIs(is_frame(2, inner), fits, inner)
                self.assertEqual(repr(inner), before)

    def test_wrong_sizes(self):
        for size in (0, 9, None, True, "2", [2]):
            self.assert_raises(InvalidSize, None, is_frame, size, EVEN)
            self.assert_raises(InvalidSize, None, is_frame, size, None)


class UnrolledTest(TwinTest):

    def test_some_frames(self):
        self.assert_same(unrolled(2, PAIR, 2), [(0, 0, 0), (0, 1, 0), (1, 0, 0), (1, 1, 0)])
        self.assert_same(unrolled(2, EVEN, 2), [*THREE, (2, 0, 0), (2, 1, 0), (3, 1, 1)])
        self.assert_same(unrolled(2, (40, [(39, 1, 1)]), 3), [(39, 1, 1), (79, 1, 1), (119, 1, 1)])
        self.assert_same(unrolled(2, EVEN, 0), [])

    def test_the_greatest_rounds_that_fit(self):
        for seed in range(80):
            frame = some_frame(seed, 4, 60)
            length, cells = frame
            if not cells:
                continue
            most = 60 // len(cells)
            for rounds in {0, 1, most // 2, most}:
                if rounds <= most:
                    found = unrolled(4, frame, rounds)
                    told = [(slot + turn * length, *ports) for turn in range(rounds) for slot, *ports in cells]
                    self.assert_same(found, told)
                    self.assertIs(is_cells(4, found), True)
            for rounds in (most + 1, most + 2, 61, 10 ** 30, 10 ** 40 - 1):
                self.assert_raises(TooLarge, ("limit", 60), unrolled, 4, frame, rounds)

    def test_60_cells(self):
        frame = (8, crowd())
        self.assert_same(unrolled(8, frame, 1), crowd())
        self.assert_same(unrolled(8, frame, 0), [])
        self.assert_raises(TooLarge, ("limit", 60), unrolled, 8, frame, 2)
        frame = (1, [(0, 0, 0)])
        self.assert_same(unrolled(1, frame, 60), [(slot, 0, 0) for slot in range(60)])
        self.assert_raises(TooLarge, ("limit", 60), unrolled, 1, frame, 61)

    def test_frames_without_cells(self):
        for rounds in (0, 1, 60, 61, 10 ** 30, 10 ** 30 + 1, 10 ** 40 - 1):
            self.assert_same(unrolled(2, (40, []), rounds), [])

    def test_the_result_is_new(self):
        frame = (2, list(THREE))
        found = unrolled(2, frame, 1)
        found.append("changed")
        self.assert_same(frame, EVEN)


class WalkedTest(TwinTest):

    def assert_walked(self, size, frame, rounds):
        """Compare all that is told of a frame with its rounds walked slot by slot."""
        length, cells = frame
        told = walked(size, frame, rounds)
        for slot, outlet, turn, index in told:
            self.assert_same(leaving_of(size, frame, turn, index), slot)
        for outlet in range(size):
            self._assert_senders(size, frame, rounds, outlet, told)
            for many in range(rounds + 1):
                came = many * len([1 for cell in cells if cell[2] == outlet])
                left = len([1 for slot, other, turn, _ in told if other == outlet and slot < many * length])
                self.assert_same(left_over(size, frame, outlet, many), came - left)
        pairs = clashing(frame, told)
        for many in range(rounds + 1):
            self.assert_same(clash_pairs(size, frame, many), len([1 for pair in pairs if pair[2] < many]))
        # What meets at all does so for the first time within these rounds.
        self.assert_same(first_clash(size, frame), min([pair[:2] for pair in pairs], default=None))
        self.assert_same(clear_rounds(size, frame), min([pair[2] for pair in pairs], default=None))

    def _assert_senders(self, size, frame, rounds, outlet, told):
        senders = {slot: (turn, index) for slot, other, turn, index in told if other == outlet}
        for slot in range(rounds * frame[0]):
            self.assert_same(sender_at(size, frame, outlet, slot), senders.get(slot))

    def test_some_frames(self):
        for frame in (EVEN, PAIR, MIXED, (3, []), (40, [(39, 0, 0), (39, 1, 0)]), (1, [(0, 0, 0), (0, 1, 1)])):
            self.assert_walked(2, frame, 12)

    def test_small_frames(self):
        for number, cells in enumerate(small_lists(2, 2)):
            for length in (2, 3):
                self.assert_walked(2, (length, cells), 12)
        for cells in small_lists(3, 1):
            for length in (1, 2):
                self.assert_walked(3, (length, cells), 12)

    def test_drawn_frames(self):
        found = {"fewer": 0, "as many": 0, "more": 0}
        for seed in range(150):
            size = 2 + seed % 4
            frame = some_frame(seed, size, 60)
            self.assert_walked(size, frame, 30)
            for outlet in range(size):
                many = len([1 for cell in frame[1] if cell[2] == outlet])
                word = "fewer" if many < frame[0] else "as many" if many == frame[0] else "more"
                found[word] += 1
        self.assertGreater(min(found.values()), 20)

    def test_full_frames(self):
        for length, size in [(8, 8), (20, 3), (30, 2), (40, 1)]:
            for seed in range(2):
                source = random.Random(seed)
                places = [(slot, entry) for slot in range(length) for entry in range(size)][:60]
                outlets = [source.choice([0, 0, 0, source.randrange(size)]) for _ in places]
                self.assert_walked(size, (length, [(*place, outlet) for place, outlet in zip(places, outlets)]), 8)

    def test_the_cells_of_few_rounds_leave_as_told(self):
        for seed in range(60):
            frame = some_frame(seed, 3, 12)
            rounds = 60 // max(1, len(frame[1]))
            cells = unrolled(3, frame, rounds)
            row = first_come(3, cells)
            told = [leaving_of(3, frame, turn, index) for turn in range(rounds) for index in range(len(frame[1]))]
            self.assert_same(row, told)
            pairs = sum([1 for one, other in combinations(range(len(cells)), 2)
                         if row[one] == row[other] and cells[one][1] == cells[other][1]])
            self.assert_same(clash_pairs(3, frame, rounds), pairs)
            self.assertEqual(pairs == 0, clashes(3, cells, row) == [])


class VeryManyRoundsTest(TwinTest):

    def test_the_frames_of_the_document(self):
        self.assert_same([left_over(2, PAIR, 0, rounds) for rounds in (MOST, MOST - 1)], [MOST, MOST - 1])
        for frame, outlet in [(EVEN, 0), (EVEN, 1), (PAIR, 1), (MIXED, 1)]:
            self.assert_same(left_over(2, frame, outlet, MOST), 0)
        self.assert_same(left_over(2, MIXED, 0, MOST), MOST)
        self.assert_same([leaving_of(2, PAIR, MOST, 0), leaving_of(2, PAIR, MOST, 1)], [2 * MOST, 2 * MOST + 1])
        self.assert_same([leaving_of(2, MIXED, MOST, index) for index in range(4)],
                         [3 * MOST, 3 * MOST + 1, 2 * MOST + 1, 3 * MOST + 2])
        self.assert_same(sender_at(2, PAIR, 0, 10 ** 31 - 1), ((10 ** 31 - 1) // 2, 1))
        self.assert_same(sender_at(2, MIXED, 0, 10 ** 31 - 1), (3333333333333333333333333333333, 0))
        self.assert_same(sender_at(2, MIXED, 1, 10 ** 31 - 1), (5 * 10 ** 30 - 1, 2))
        self.assert_same(sender_at(2, MIXED, 1, 10 ** 31 - 2), None)
        self.assert_same(sender_at(2, EVEN, 1, 10 ** 30 + 1), (5 * 10 ** 29, 2))
        self.assert_same(clash_pairs(2, EVEN, MOST), MOST)
        self.assert_same([clash_pairs(2, MIXED, rounds) for rounds in (0, 1, 2, 3, 10)], [0, 0, 1, 1, 3])
        # In slots 3 * a and 2 * b + 1: the cells meet for odd a below the number of rounds.
        self.assert_same(first_clash(2, MIXED), (3, 0))
        self.assertEqual(clear_rounds(2, MIXED), 1)

    def test_later_rounds_are_like_earlier_ones(self):
        for seed in range(120):
            size = 2 + seed % 4
            frame = some_frame(seed, size, 60)
            length, cells = frame
            for outlet in range(size):
                many = len([1 for cell in cells if cell[2] == outlet])
                step = max(length, many)
                left = left_over(size, frame, outlet, 5)
                self.assert_same(left_over(size, frame, outlet, MOST), left + (MOST - 5) * (step - length))
                for index in [at for at, cell in enumerate(cells) if cell[2] == outlet]:
                    leaving = leaving_of(size, frame, 5, index)
                    self.assert_same(leaving_of(size, frame, MOST, index), leaving + (MOST - 5) * step)
                    for turn in (0, 1, 5, 10 ** 29 // 7, 10 ** 29):
                        slot = leaving_of(size, frame, turn, index)
                        self.assert_same(sender_at(size, frame, outlet, slot), (turn, index))

    def test_clash_pairs_grow_alike(self):
        # All leaving slots come again after a common multiple of their steps, so the numbers of pairs do, too.
        for seed in range(120):
            size = 2 + seed % 4
            frame = some_frame(seed, size, 14)
            period = 1
            for outlet in range(size):
                many = max(frame[0], len([1 for cell in frame[1] if cell[2] == outlet]))
                period = period * many
            if period > 10 ** 6:
                continue
            base = 100 * period + seed
            numbers = [clash_pairs(size, frame, base + many * period) for many in range(4)]
            steps = {later - earlier for earlier, later in zip(numbers, numbers[1:])}
            self.assertEqual(len(steps), 1)
            rounds = MOST - (MOST - base) % period
            told = numbers[0] + (rounds - base) // period * steps.pop()
            self.assert_same(clash_pairs(size, frame, rounds), told)

    def test_steps_without_a_common_slot(self):
        # Output 0 sends the two cells of input 0 and those of input 1 by turns, output 1 in slots that fit or not.
        for late in (0, 1):
            frame = (2, sorted([(0, 0, 0), (0, 1, 1), (1, late, 2)]))
            told = walked(3, frame, 20)
            self.assert_same(first_clash(3, frame), min([pair[:2] for pair in clashing(frame, told)], default=None))
            self.assert_same(clash_pairs(3, frame, MOST), 0)
            self.assert_same(clear_rounds(3, frame), None)

    def test_a_clash_that_comes_late(self):
        # Output 0 gets 8 cells in each round of 7 slots, output 1 one; they meet for the first time much later.
        cells = sorted([(slot, 1, 0) for slot in range(7)] + [(6, 0, 0), (0, 0, 1)])
        for length, cells in [(7, cells), (7, sorted([(slot, 1, 0) for slot in range(7)] + [(5, 0, 0), (3, 0, 1)]))]:
            pairs = clashing((length, cells), walked(2, (length, cells), 60))
            self.assertEqual(clear_rounds(2, (length, cells)), min(pair[2] for pair in pairs))
            self.assertEqual(first_clash(2, (length, cells)), min(pair[:2] for pair in pairs))
            for rounds in (0, 1, 5, 20, 59, 60):
                told = len([1 for pair in pairs if pair[2] < rounds])
                self.assertEqual(clash_pairs(2, (length, cells), rounds), told)

    def test_frames_without_cells(self):
        frame = (40, [])
        self.assert_same([clash_pairs(2, frame, MOST), first_clash(2, frame), clear_rounds(2, frame)], [0, None, None])
        self.assert_same([left_over(2, frame, 1, MOST), sender_at(2, frame, 1, 10 ** 31 - 1)], [0, None])
        for index in (0, 1, 10 ** 40 - 1):
            self.assert_raises(InvalidNumber, None, leaving_of, 2, frame, 0, index)

    def test_60_cells_are_quick(self):
        for length, size in [(8, 8), (30, 2), (1, 8), (12, 5)]:
            places = list(product(range(length), range(size)))[:60]
            for step in (1, 3, 5):
                cells = [(*place, (at * step + at // 7) % size) for at, place in enumerate(places)]
                frame = (length, cells)
                first = clash_pairs(size, frame, 10 ** 29)
                self.assertLessEqual(first, clash_pairs(size, frame, MOST))
                clear = clear_rounds(size, frame)
                if clear is not None:
                    self.assertEqual(clash_pairs(size, frame, clear), 0)
                    self.assertGreater(clash_pairs(size, frame, clear + 1), 0)
                    self.assertIsNotNone(first_clash(size, frame))


class WrongArgumentsTest(TwinTest):

    def test_numbers_beyond_their_ranges(self):
        for number in (-1, MOST + 1, 10 ** 200 - 1, None, True, "0", [0]):
            self.assert_raises(InvalidNumber, None, left_over, 2, EVEN, 0, number)
            self.assert_raises(InvalidNumber, None, leaving_of, 2, EVEN, number, 0)
            self.assert_raises(InvalidNumber, None, leaving_of, 2, EVEN, number, 3)
            self.assert_raises(InvalidNumber, None, clash_pairs, 2, EVEN, number)
        for number in (-1, None, True, "0", [0]):
            self.assert_raises(InvalidNumber, None, unrolled, 2, EVEN, number)
            self.assert_raises(InvalidNumber, None, leaving_of, 2, EVEN, 0, number)
        for index in (3, 4, 60, 10 ** 40 - 1):
            self.assert_raises(InvalidNumber, None, leaving_of, 2, EVEN, 0, index)

    def test_the_first_one_is_told(self):
        self.assert_raises(InvalidFrame, ("index", 0), left_over, 2, (0, None), 2, -1)
        self.assert_raises(InvalidPort, None, left_over, 2, EVEN, 2, -1)
        self.assert_raises(InvalidPort, None, sender_at, 2, EVEN, 2, -1)
        self.assert_raises(InvalidSlot, None, sender_at, 2, EVEN, 1, -1)
        self.assert_raises(InvalidSlot, None, sender_at, 2, EVEN, 1, 10 ** 31)
        self.assert_raises(InvalidFrame, ("index", 1), clear_rounds, 1, EVEN)
        self.assert_raises(InvalidFrame, ("index", None), first_clash, 2, [2, THREE])
        self.assert_raises(InvalidSize, None, first_clash, 0, None)
        self.assert_raises(InvalidNumber, None, unrolled, 2, (40, THREE), -1)
