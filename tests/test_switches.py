"""Points 27, 28 and 29: switches that run slot by slot."""

import copy
import random

from idealtwin import errors
from idealtwin.errors import (
    Impossible, InvalidArrivals, InvalidNumber, InvalidRhythm, InvalidSize, NothingToUndo, TooLarge,
)
from idealtwin.switches import CountingSwitch, OldestCountingSwitch, OldestSwitch, Switch
from tests.helpers import ANY_VALUES, TwinTest
from tests.switch_reference import Walk

NEWEST = (Switch, CountingSwitch)
OLDEST = (OldestSwitch, OldestCountingSwitch)
COUNTING = (CountingSwitch, OldestCountingSwitch)
CLASSES = NEWEST + OLDEST
RHYTHMS = [[1], [2], [9], [0, 1], [1, 0, 2], [0, 0, 0, 1], [1] * 39 + [9]]
PROPERTIES = ("size", "rhythm", "slot", "waiting", "held", "late")


def some_arrivals(seed, size, slots, share, outlets):
    """Return the arrivals of some slots, the same ones for equal arguments; of ten inputs about `share` get one."""
    source = random.Random(seed)
    found = []
    for _ in range(slots):
        entries = [entry for entry in range(size) if source.randrange(10) < share]
        found.append([(entry, source.randrange(outlets)) for entry in entries])
    return found


def told_of(switch):
    """Return all that a switch tells."""
    told = [getattr(switch, name) for name in PROPERTIES] + [len(switch), switch.described()]
    told += [[switch.leaving(number), switch.crossing(number)] for number in range(len(switch))]
    return told + [switch.idle] if isinstance(switch, CountingSwitch) else told


def ran(made, size, rhythm, arrivals):
    """Return a switch of a class behind some slots."""
    switch = made(size, rhythm)
    for ports in arrivals:
        switch.tick(ports)
    return switch


def told_of_walk(made, size, rhythm, walk):
    """Return what a switch of a class has to tell behind a walk."""
    told = [size, rhythm, walk.slot, walk.waiting, walk.held, walk.late, len(walk.cells)]
    lines = [f"slot {walk.slot}", f"waiting {len(walk.waiting)}", f"late {len(walk.late)}"]
    counts = made in COUNTING
    told.append(lines + [f"idle {walk.idle}"] if counts else lines)
    told += [[leaving, crossing] for leaving, crossing in zip(walk.row, walk.crossings)]
    return told + [walk.idle] if counts else told


class SwitchTest(TwinTest):

    def assert_walk(self, made, size, rhythm, arrivals):
        """Compare a switch with the walk, slot by slot; return the walk of all slots."""
        rule = "oldest" if made in OLDEST else "newest"
        switch = made(size, rhythm)
        self.assert_same(told_of(switch), told_of_walk(made, size, rhythm, Walk(rhythm, rule, [])))
        for many, ports in enumerate(arrivals):
            walk = Walk(rhythm, rule, arrivals[:many + 1])
            self.assert_same(switch.tick(ports), walk.left[-1])
            self.assert_same(told_of(switch), told_of_walk(made, size, rhythm, walk))
        return walk


class TickTest(SwitchTest):

    def test_some_slots(self):
        arrivals = [[(0, 0), (1, 0)], [(1, 1)], [], []]
        for made, told in [(Switch, [[0], [2], [1], []]), (OldestSwitch, [[0], [1], [2], []])]:
            switch = made(2, [1])
            self.assert_same([switch.tick(ports) for ports in arrivals], told)
        for made in CLASSES:
            self.assert_walk(made, 2, [1], arrivals)
            self.assert_walk(made, 2, [2], arrivals)

    def test_drawn_slots(self):
        for seed in range(40):
            for made in CLASSES:
                size = 1 + seed % 8
                rhythm = RHYTHMS[seed % len(RHYTHMS)]
                arrivals = some_arrivals(seed, size, 14, 2 + seed % 9, 1 + seed % size)
                self.assert_walk(made, size, rhythm, arrivals)

    def test_all_cells_for_one_output(self):
        for made in CLASSES:
            arrivals = [[(entry, 3) for entry in range(8)]] * 3 + [[]] * 25
            walk = self.assert_walk(made, 8, [1], arrivals)
            self.assertEqual(walk.left, [[number] for number in range(24)] + [[]] * 4)

    def test_late_cells_leave_beside_the_one_whose_turn_it_is(self):
        # Cell 1 has to let the newer cell 2 of its input go ahead, and comes out with cell 3 of the same output.
        switch = Switch(2, [1])
        self.assert_same([switch.tick([(0, 0), (1, 0)]), switch.tick([(1, 1)])], [[0], [2]])
        self.assert_same([switch.late, switch.waiting, switch.held], [[1], [1], []])
        self.assert_same([switch.tick([(0, 0)]), switch.leaving(3), switch.crossing(3)], [[1], 2, None])
        self.assert_same([switch.late, switch.waiting, switch.tick([])], [[3], [3], [3]])
        # With more pairings in the slot both leave at once.
        switch = Switch(2, [1, 1, 2])
        switch.tick([(0, 0), (1, 0)])
        switch.tick([(1, 1)])
        self.assert_same([switch.tick([(0, 0)]), switch.leaving(1), switch.leaving(3)], [[1, 3], 1, 2])
        found = 0
        for seed in range(30):
            arrivals = some_arrivals(seed, 4, 20, 4, 3)
            walk = self.assert_walk(Switch, 4, [1, 0, 3], arrivals)
            for slot, numbers in enumerate(walk.left):
                outlets = [walk.cells[number][2] for number in numbers]
                late = [number for number in numbers if walk.row[number] < slot]
                found += bool(late) and len(set(outlets)) < len(outlets)
        self.assertGreater(found, 10)

    def test_many_slots_and_many_cells(self):
        for made in CLASSES:
            walk = self.assert_walk(made, 8, [0, 2, 1], some_arrivals(1, 8, 48, 10, 8))
            self.assertEqual(len(walk.cells), 384)
        switch = Switch(2, [1])
        arrivals = some_arrivals(2, 2, 200, 8, 2)
        told = [switch.tick(ports) for ports in arrivals]
        walk = Walk([1], "newest", arrivals)
        self.assert_same(told, walk.left)
        self.assert_same(told_of(switch), told_of_walk(Switch, 2, [1], walk))

    def test_idle_pairings(self):
        for made in COUNTING:
            switch = made(2, [2, 0, 3])
            self.assert_same(switch.idle, 0)
            self.assert_same([switch.tick([(0, 0), (1, 0)]), switch.idle], [[0], 0])
            self.assert_same([switch.tick([]), switch.idle], [[1], 0])
            self.assert_same([switch.tick([(0, 1)]), switch.idle, switch.described()[3]], [[2], 2, "idle 2"])
            self.assert_same([switch.tick([]), switch.idle], [[], 4])
            switch.undo()
            self.assert_same(switch.idle, 2)
            switch.undo()
            self.assert_same(switch.idle, 0)

    def test_a_rhythm_with_cells_held_for_long(self):
        switch = Switch(8, [9])
        self.assert_same(switch.tick([(entry, 0) for entry in range(8)]), [0])
        self.assert_same([switch.held, switch.waiting, switch.late], [list(range(1, 8)), [], []])
        self.assert_same([switch.tick([]) for _ in range(8)], [[number] for number in range(1, 8)] + [[]])


class ErrorsTest(SwitchTest):

    def test_constructors(self):
        for made in CLASSES:
            for size in (0, 9, -1, None, True, "2", [2], (2,), {}, 10 ** 200 - 1, Switch(1, [1])):
                self.assert_raises(InvalidSize, None, made, size, [1])
                self.assert_raises(InvalidSize, None, made, size, None)
                self.assert_raises(InvalidSize, None, made, size, [0])
            for rhythm in (None, [], [1] * 41, (1,), 1, "1", True, {}, {"a": 1}, Switch(1, [1])):
                self.assert_raises(InvalidRhythm, ("index", None), made, 2, rhythm)
            for rhythm, index in [([10], 0), ([0, -1], 1), ([0, True], 1), ([1, 2, None], 2), ([0] * 39 + [10], 39)]:
                self.assert_raises(InvalidRhythm, ("index", index), made, 2, rhythm)
            for rhythm in ([0], [0, 0], [0] * 40):
                self.assert_raises(Impossible, None, made, 2, rhythm)
            for size in range(1, 9):
                switch = made(size=size, rhythm=[0] * 39 + [9])
                self.assert_same([switch.size, switch.rhythm, switch.slot, len(switch)], [size, [0] * 39 + [9], 0, 0])

    WRONG = [
        *[(value, None) for value in ANY_VALUES if type(value) is not list],
        *[([value], 0) for value in ANY_VALUES if value != (0, 0)],
        *[([(0, 1), value], 1) for value in ANY_VALUES],
        ([(0, 0, 0)], 0), ([(0,)], 0), ([[0, 0]], 0), ([(2, 0)], 0), ([(0, 2)], 0), ([(-1, 0)], 0), ([(0, -1)], 0),
        ([(True, 0)], 0), ([(0, False)], 0), ([("0", 0)], 0), ([(0, None)], 0), ([None, None], 0), ([(2, 0), None], 0),
        ([(0, 0), (0, 0)], 1), ([(0, 0), (0, 1)], 1), ([(1, 0), (0, 0)], 1), ([(1, 0), (1, 1)], 1),
        ([(0, 0), (1, 2)], 1), ([(0, 0), (1, True)], 1), ([(0, 0), (1, 0), (1, 0)], 2), ([(0, 0), (1, 0), (2, 0)], 2),
        ([(0, 0), (1, 0), None], 2), ([(0, 0), (1, 0), (0, 0)], 2), ([None] * 1000, 0), ([(1, 1)] * 1000, 1),
    ]

    def test_wrong_arrivals(self):
        for made in CLASSES:
            switch = ran(made, 2, [1, 0], [[(0, 0), (1, 0)], [(0, 0)], [(1, 1)]])
            before = told_of(switch)
            for value, index in self.WRONG:
                self.assert_raises(InvalidArrivals, ("index", index), switch.tick, value)
                self.assert_raises(InvalidArrivals, ("index", index), switch.tick, arrivals=value)
            self.assert_same(told_of(switch), before)
            self.assertEqual(switch.tick([(0, 1), (1, 0)]), ran(made, 2, [1, 0], [
                [(0, 0), (1, 0)], [(0, 0)], [(1, 1)]]).tick([(0, 1), (1, 0)]))

    def test_arrivals_of_all_ports(self):
        for made in CLASSES:
            for size in range(1, 9):
                switch = made(size, [1])
                self.assert_same(switch.tick([(entry, entry) for entry in range(size)]), list(range(size)))
                self.assert_raises(InvalidArrivals, ("index", 0), switch.tick, [(size, 0)])
                self.assert_raises(InvalidArrivals, ("index", 0), switch.tick, [(0, size)])

    def test_the_401st_cell(self):
        eight = [(entry, entry) for entry in range(8)]
        for made in CLASSES:
            switch = ran(made, 8, [1], [eight] * 49 + [eight[:7]])
            self.assertEqual(len(switch), 399)
            before = told_of(switch)
            for ports in (eight[:2], eight):
                self.assert_raises(TooLarge, ("limit", 400), switch.tick, ports)
            self.assert_raises(InvalidArrivals, ("index", 1), switch.tick, [(0, 0), None])
            self.assert_same(told_of(switch), before)
            self.assert_same(switch.tick(eight[:1]), [399])
            before = told_of(switch)
            self.assert_raises(TooLarge, ("limit", 400), switch.tick, eight[:1])
            self.assert_same(told_of(switch), before)
            self.assert_same([switch.tick([]), len(switch)], [[], 400])
            # Cells whose tick is reverted do not count.
            switch.undo()
            switch.undo()
            self.assert_same([len(switch), switch.tick(eight[3:4]), len(switch)], [399, [399], 400])

    def test_numbers_that_no_cell_has(self):
        for made in CLASSES:
            switch = made(2, [1])
            for number in (0, 1, -1, None):
                self.assert_raises(InvalidNumber, None, switch.leaving, number)
                self.assert_raises(InvalidNumber, None, switch.crossing, number)
            switch.tick([(0, 0), (1, 0)])
            others = [value for value in ANY_VALUES if type(value) is not int]
            for number in [2, 3, -1, -2, 400, 10 ** 200 - 1, *others]:
                self.assert_raises(InvalidNumber, None, switch.leaving, number)
                self.assert_raises(InvalidNumber, None, switch.crossing, number)
            self.assert_same([switch.leaving(number=1), switch.crossing(number=1)], [1, None])
            self.assert_same([switch.leaving(0), switch.crossing(0)], [0, 0])
            switch.undo()
            self.assert_raises(InvalidNumber, None, switch.leaving, 0)
            self.assert_raises(InvalidNumber, None, switch.crossing, 0)


class UndoTest(SwitchTest):

    def test_back_to_the_first_slot_and_on_again(self):
        for seed in range(16):
            made = CLASSES[seed % 4]
            rhythm = RHYTHMS[seed % len(RHYTHMS)]
            arrivals = some_arrivals(seed, 4, 20, 6, 2 + seed % 3)
            switch = made(4, rhythm)
            told, left = [told_of(switch)], []
            for ports in arrivals:
                left.append(switch.tick(ports))
                told.append(told_of(switch))
            for behind in reversed(told[:-1]):
                self.assertIs(switch.undo(), None)
                self.assert_same(told_of(switch), behind)
            self.assert_raises(NothingToUndo, None, switch.undo)
            self.assert_same(told_of(switch), told[0])
            self.assertEqual(switch, made(4, rhythm))
            self.assert_same([switch.tick(ports) for ports in arrivals], left)
            self.assert_same(told_of(switch), told[-1])

    def test_other_ticks_behind_undo(self):
        for seed in range(40):
            made = CLASSES[seed % 4]
            source = random.Random(seed)
            arrivals, switch = [], made(3, [1, 2, 0])
            for _ in range(60):
                if source.randrange(3) == 0 and arrivals:
                    self.assertIs(switch.undo(), None)
                    arrivals.pop()
                else:
                    ports = some_arrivals(source.randrange(1000), 3, 1, 5, 3)[0]
                    switch.tick(ports)
                    arrivals.append(ports)
            self.assert_same(told_of(switch), told_of(ran(made, 3, [1, 2, 0], arrivals)))
            self.assertEqual(switch, ran(made, 3, [1, 2, 0], arrivals))

    def test_nothing_to_undo(self):
        for made in CLASSES:
            switch = made(2, [1])
            for _ in range(3):
                self.assert_raises(NothingToUndo, None, switch.undo)
            switch.tick([])
            switch.undo()
            self.assert_raises(NothingToUndo, None, switch.undo)
            # A tick that raises an error is none to revert.
            self.assert_raises(InvalidArrivals, ("index", None), switch.tick, None)
            self.assert_raises(NothingToUndo, None, switch.undo)


class TwinsTest(SwitchTest):

    def test_neither_changes_the_other_one(self):
        for seed in range(16):
            made = CLASSES[seed % 4]
            arrivals = some_arrivals(seed, 3, 12, 6, 2)
            switch = ran(made, 3, [1], arrivals[:6])
            twin = switch.twin()
            before = told_of(switch)
            self.assertIs(type(twin), made)
            self.assertIsNot(twin, switch)
            self.assertEqual(twin, switch)
            self.assert_same(told_of(twin), before)
            for ports in arrivals[6:]:
                twin.tick(ports)
            self.assert_same(told_of(switch), before)
            later = told_of(twin)
            while switch.slot:
                switch.undo()
            switch.tick([(2, 2)])
            self.assert_same(told_of(twin), later)
            self.assert_same(later, told_of(ran(made, 3, [1], arrivals)))
            # It can revert the ticks that were done before it was made.
            for many in range(11, -1, -1):
                twin.undo()
                self.assert_same(told_of(twin), told_of(ran(made, 3, [1], arrivals[:many])))
            self.assert_raises(NothingToUndo, None, twin.undo)

    def test_a_twin_of_a_new_switch(self):
        for made in CLASSES:
            switch = made(2, [1, 2])
            twin = switch.twin()
            self.assertIs(type(twin), made)
            self.assertEqual(switch, twin)
            self.assert_raises(NothingToUndo, None, twin.undo)
            twin.tick([(0, 0)])
            self.assert_same([switch.slot, len(switch), twin.twin().crossing(0)], [0, 0, 0])


class EqualityTest(SwitchTest):

    def assert_equal(self, one, other, told):
        self.assertIs(one == other, told)
        self.assertIs(other == one, told)
        self.assertIs(one != other, not told)

    def test_switches_of_one_class(self):
        arrivals = [[(0, 0), (1, 0)], [], [(1, 1)]]
        for made in CLASSES:
            switch = ran(made, 2, [1], arrivals)
            self.assert_equal(switch, switch, True)
            self.assert_equal(switch, ran(made, 2, [1], arrivals), True)
            for size, rhythm, others in [
                (3, [1], arrivals), (2, [2], arrivals), (2, [1, 1], arrivals), (2, [1], arrivals[:2]),
                (2, [1], arrivals + [[]]), (2, [1], [arrivals[0], arrivals[2], []]), (2, [1], []),
                (2, [1], [[(0, 0), (1, 1)], [], [(1, 1)]]), (2, [1], [[(0, 0)], [], [(1, 1)]]),
                (2, [1], [[(0, 0), (1, 0)], [], [(0, 1)]]),
            ]:
                self.assert_equal(switch, ran(made, size, rhythm, others), False)
            self.assert_equal(made(2, [1]), ran(made, 2, [1], [[]]), False)
            behind = ran(made, 2, [1], arrivals + [[(0, 1)]])
            behind.undo()
            self.assert_equal(switch, behind, True)

    def test_switches_of_unlike_classes(self):
        for number, made in enumerate(CLASSES):
            for other in CLASSES[:number]:
                self.assert_equal(made(2, [1]), other(2, [1]), False)
                self.assert_equal(ran(made, 2, [2], [[(0, 0)]]), ran(other, 2, [2], [[(0, 0)]]), False)

    def test_other_values(self):
        for made in CLASSES:
            switch = ran(made, 2, [1], [[(0, 0)]])
            for value in [*ANY_VALUES, (2, [1]), "Switch", made, errors.TwinError("x"), object()]:
                self.assert_equal(switch, value, False)
            self.assertNotIn(switch, ANY_VALUES)
            self.assertIn(switch, [*ANY_VALUES, switch.twin()])


class PropertiesTest(SwitchTest):

    def test_lists_are_new(self):
        for made in CLASSES:
            switch = ran(made, 2, [1, 0], [[(0, 0), (1, 0)], [(0, 0), (1, 1)], [(0, 0), (1, 0)], [(0, 1)]])
            before = copy.deepcopy(told_of(switch))
            for name in ("rhythm", "waiting", "held", "late"):
                found = getattr(switch, name)
                self.assertIs(type(found), list)
                self.assertIsNot(getattr(switch, name), found)
                found.append(7)
                found[0] = 8
            switch.described().clear()
            switch.described()[0] = "changed"
            self.assert_same(told_of(switch), before)
            left = switch.tick([])
            before = copy.deepcopy(told_of(switch))
            left.append(9)
            self.assert_same(told_of(switch), before)

    def test_arguments_are_not_kept(self):
        for made in CLASSES:
            rhythm, arrivals = [1, 2], [(0, 0), (1, 0)]
            switch = made(2, rhythm)
            rhythm[0] = 9
            rhythm.append(5)
            self.assert_same(switch.rhythm, [1, 2])
            switch.tick(arrivals)
            self.assert_same(arrivals, [(0, 0), (1, 0)])
            arrivals.clear()
            self.assert_same([len(switch), switch.waiting, switch.twin().rhythm], [2, [1], [1, 2]])
            self.assertEqual(switch, ran(made, 2, [1, 2], [[(0, 0), (1, 0)]]))

    def test_properties_cannot_be_set(self):
        for made in CLASSES:
            switch = made(2, [1])
            for name in [*PROPERTIES, *(["idle"] if made in COUNTING else [])]:
                with self.assertRaises(AttributeError):
                    setattr(switch, name, 1)
            self.assertIs(hasattr(switch, "idle"), made in COUNTING)

    def test_classes(self):
        for made in CLASSES:
            self.assertTrue(issubclass(made, Switch))
        self.assertTrue(issubclass(OldestCountingSwitch, OldestSwitch))
        self.assertTrue(issubclass(OldestCountingSwitch, CountingSwitch))
        self.assertFalse(issubclass(OldestSwitch, CountingSwitch) or issubclass(CountingSwitch, OldestSwitch))
