"""The whole document: what the parts of the program promise of each other, for drawn cells."""

import random
from itertools import product

from idealtwin.console import Console
from idealtwin.frames import clash_pairs, clear_rounds, first_clash, leaving_of, left_over, sender_at, unrolled
from idealtwin.plans import is_plan, keeps_rhythm, keeps_speeds, pairings_at, shows_pairings, speeds_of
from idealtwin.rhythms import breaking, rhythm_word, unsure
from idealtwin.rows import (
    busy_count, busy_index, busy_slots, first_come, is_busy, is_cells, is_row, last_come, nth_busy, stays,
    waiting_count,
)
from idealtwin.serving import both_count, nth_served, served_count, served_index, serves, starved
from idealtwin.slowsides import (
    bunch_number, bunches, clash_number, clashes, jam, plan_by_coming, plan_by_leaving, shows_jam, shows_side_plan,
    side_plan,
)
from idealtwin.small import has_plan, least_pairs, nth_plan, plan_count
from idealtwin.speeds import forcing, is_enough, least_speeds
from idealtwin.steady import entry_best, is_steady
from idealtwin.switches import CountingSwitch, OldestCountingSwitch, OldestSwitch, Switch
from idealtwin.texts import format_cells, format_numbers, parse_cells, parse_row
from idealtwin.turns import is_pressed, turned_cells, turned_indices, turned_plan, turned_row
from idealtwin.twins import late_cells, run_plan, twin_plan
from tests.helpers import TwinTest, all_rows, small_lists, some_lists, some_row

RULES = ("newest", "oldest", "urgent")
RHYTHMS = [[1], [2], [1, 2], [0, 3, 1], [2, 0]]
SPEEDS = list(product((1, 2, 3), repeat=2))


def drawn(seed, many=25, size=3, slots=4, most=8):
    """Return tuples (cells, row), with rows of several kinds."""
    found = []
    for number, cells in enumerate(some_lists(seed, many, size, slots, most)):
        kinds = [first_come(size, cells), last_come(size, cells), some_row(number, cells, 4)]
        found.append((cells, kinds[number % 3]))
    return found


def is_small(cells, row):
    return len(cells) <= 8 and max([leaving - cell[0] for cell, leaving in zip(cells, row)], default=0) < 8


class TurnedTest(TwinTest):

    def test_turned_twice_all_is_as_before(self):
        for cells, row in drawn(201):
            last = max(row, default=0) + 3
            plan = twin_plan(3, cells, row)
            back, back_row = turned_cells(3, cells, row, last), turned_row(3, cells, row, last)
            back_plan = turned_plan(3, cells, row, plan, last)
            self.assertTrue(is_cells(3, back) and is_row(3, back, back_row) and is_plan(3, back, back_row, back_plan))
            self.assert_same(turned_cells(3, back, back_row, last), cells)
            self.assert_same(turned_row(3, back, back_row, last), row)
            self.assert_same(turned_plan(3, back, back_row, back_plan, last), plan)
            indices = turned_indices(3, cells, row)
            self.assert_same([indices[at] for at in turned_indices(3, back, back_row)], list(range(len(cells))))
            self.assert_same(speeds_of(3, back, back_plan), speeds_of(3, cells, plan)[::-1])
            self.assertIs(is_pressed(3, back, back_row), is_busy(3, cells, row))
            self.assertIs(is_busy(3, back, back_row), is_pressed(3, cells, row))
            # Cells of one input that leave at once become cells of one output that come at once.
            self.assert_same(bunches(3, back), sorted([(last - slot, entry) for slot, entry in clashes(3, cells, row)]))
            self.assert_same(clash_number(3, back, back_row), bunch_number(3, cells))

    def test_turned_about_there_are_as_many_plans(self):
        for cells, row in drawn(202):
            if not is_small(cells, row):
                continue
            last = max(row, default=0)
            back, back_row = turned_cells(3, cells, row, last), turned_row(3, cells, row, last)
            for speeds in SPEEDS:
                self.assert_same(plan_count(3, back, back_row, speeds[::-1]), plan_count(3, cells, row, speeds))
            pairs = sorted([pair[::-1] for pair in least_pairs(3, cells, row)])
            self.assert_same(least_pairs(3, back, back_row), pairs)

    def test_turned_about_one_side_is_the_other_one(self):
        for cells, row in drawn(203):
            for rhythm in RHYTHMS:
                # A last slot that the rhythm goes through backwards in the same numbers.
                last = (max(row, default=0) // len(rhythm) + 1) * len(rhythm) - 1
                back, back_row = turned_cells(3, cells, row, last), turned_row(3, cells, row, last)
                for side, other in (("inputs", "outputs"), ("outputs", "inputs")):
                    plan = side_plan(3, cells, row, rhythm, side)
                    self.assertIs(side_plan(3, back, back_row, rhythm[::-1], other) is None, plan is None)
                    if plan is not None:
                        found = turned_plan(3, cells, row, plan, last)
                        self.assertIs(shows_side_plan(3, back, back_row, rhythm[::-1], other, found), True)


class SpeedsTest(TwinTest):

    def test_speeds_that_are_enough_have_plans(self):
        for size in (1, 2, 3):
            for cells, row in drawn(210 + size, 15, size):
                if is_small(cells, row):
                    for speeds in SPEEDS:
                        if is_enough(size, speeds):
                            self.assertIs(has_plan(size, cells, row, speeds), True)
                    for pair in least_pairs(size, cells, row):
                        self.assertTrue(any(pair[0] <= most[0] and pair[1] <= most[1] for most in least_speeds(size)))

    def test_forcing_rows_have_no_plan(self):
        for size, speeds in [(2, (1, 1)), (3, (1, 2)), (3, (2, 1)), (8, (1, 1)), (8, (1, 2)), (8, (2, 1))]:
            cells, row = forcing(size, speeds)
            self.assertIs(has_plan(size, cells, row, speeds), False)
            self.assert_same(plan_count(size, cells, row, speeds), 0)
            self.assertIs(is_plan(size, cells, row, twin_plan(size, cells, row)), True)
        for size in range(2, 9):
            for number in range(1, size):
                cells, row = forcing(size, (1, number))
                self.assertIs(is_busy(size, cells, row) and row == first_come(size, cells), True)
                # The first cell of each input must cross in slot 0 if each input sends one cell in a slot.
                pressed = plan_by_coming(size, cells, row, number + 1) if is_pressed(size, cells, row) else None
                self.assert_same(pressed, [cell[0] for cell in cells])
                self.assertIs(plan_by_coming(size, cells, row, number), None)

    def test_slow_sides_have_one_plan(self):
        for cells, row in drawn(214, 60):
            if is_busy(3, cells, row) and is_small(cells, row):
                for number in (1, 2, 3):
                    found = plan_by_leaving(3, cells, row, number)
                    self.assert_same(plan_count(3, cells, row, (number, 1)), 0 if found is None else 1)
                    if found is not None:
                        self.assert_same(nth_plan(3, cells, row, (number, 1), 0), found)
            if is_pressed(3, cells, row) and is_small(cells, row):
                for number in (1, 2, 3):
                    found = plan_by_coming(3, cells, row, number)
                    self.assert_same(plan_count(3, cells, row, (1, number)), 0 if found is None else 1)
                    if found is not None:
                        self.assert_same(nth_plan(3, cells, row, (1, number), 0), found)

    def test_jams_hinder_all_plans(self):
        for cells, row in drawn(215, 60):
            if is_small(cells, row):
                for number in (1, 2):
                    for side, speeds in (("inputs", (number, 60)), ("outputs", (60, number))):
                        found = jam(3, cells, row, [number], side)
                        self.assertIs(found is None, has_plan(3, cells, row, speeds))
                        if found is not None:
                            self.assertIs(shows_jam(3, cells, row, [number], side, found), True)
                            self.assertIs(has_plan(3, cells, row, (number, number)), False)


class RunsTest(TwinTest):

    def test_runs_and_running_switches(self):
        kinds = [
            (Switch, "newest"), (OldestSwitch, "oldest"), (CountingSwitch, "newest"), (OldestCountingSwitch, "oldest"),
        ]
        for seed, cells in enumerate(some_lists(221, 30, 4, 9, 30)):
            row = first_come(4, cells)
            for made, rule in kinds:
                rhythm = RHYTHMS[seed % len(RHYTHMS)]
                switch = made(4, rhythm)
                plan = run_plan(4, cells, row, rhythm, rule)
                left = []
                for slot in range(max(plan + row, default=0) + 1):
                    left.append(switch.tick([cell[1:] for cell in cells if cell[0] == slot]))
                    self._assert_slot(switch, cells, row, plan)
                numbers = range(len(cells))
                self.assert_same([switch.leaving(number) for number in numbers], row)
                self.assert_same([switch.crossing(number) for number in numbers], plan)
                outs = [max(crossing, leaving) for crossing, leaving in zip(plan, row)]
                told = [[number for number in numbers if outs[number] == slot] for slot in range(len(left))]
                self.assert_same(left, told)
                late = [number for number in numbers if outs[number] > row[number]]
                self.assert_same(late, late_cells(4, cells, row, plan))

    def _assert_slot(self, switch, cells, row, plan):
        behind = switch.slot
        came = [number for number, cell in enumerate(cells) if cell[0] < behind]
        self.assert_same(switch.waiting, [number for number in came if plan[number] >= behind])
        self.assert_same(switch.late, [number for number in came if plan[number] >= behind > row[number]])
        self.assert_same(switch.held, [number for number in came if plan[number] < behind <= row[number]])
        self.assertEqual(len(switch), len(came))

    def test_a_rhythm_of_2_is_always_in_time(self):
        for seed, cells in enumerate(some_lists(222, 30, 4, 9, 30)):
            switch = Switch(4, [2])
            for slot in range(40):
                left = switch.tick([cell[1:] for cell in cells if cell[0] == slot])
                self.assert_same(switch.late, [])
                outlets = [cells[number][2] for number in left]
                self.assertEqual(len(set(outlets)), len(outlets))
                self.assertTrue(all(switch.leaving(number) == slot for number in left))
            row = some_row(seed, cells, 6)
            self.assert_same(twin_plan(4, cells, row), twin_plan(4, cells, row))
            self.assertIs(keeps_speeds(4, cells, twin_plan(4, cells, row), (2, 2)), True)

    def test_rhythm_words(self):
        for rhythm in [list(numbers) for many in (1, 2, 3) for numbers in product(range(4), repeat=many)]:
            for longest in (1, 2, 4):
                word = rhythm_word(2, rhythm, longest)
                found = breaking(2, rhythm, longest)
                self.assertIs(found is None, word != "fails")
                if found is not None:
                    cells, row = found
                    plans = product(*[range(cell[0], leaving + 1) for cell, leaving in zip(cells, row)])
                    self.assertFalse(any(keeps_rhythm(2, cells, list(plan), rhythm) for plan in plans))
                    self.assertLessEqual(max(stays(2, cells, row)), longest)
                if word == "sure":
                    self._assert_sure(rhythm, longest)

    def _assert_sure(self, rhythm, longest):
        for cells in small_lists(2, 2)[::5]:
            for row in all_rows(cells, longest)[::4]:
                self.assert_same(unsure(2, cells, row, rhythm), [])
                plan = run_plan(2, cells, row, rhythm, "newest")
                self.assertTrue(is_plan(2, cells, row, plan) and keeps_rhythm(2, cells, plan, rhythm))

    def test_the_first_pairing_is_steady(self):
        for cells, row in drawn(223, 40, 4, 1, 4) + drawn(224, 40, 3, 5, 12):
            slot = max([cell[0] for cell in cells], default=0)
            for rule in RULES:
                plan = run_plan(4, cells, row, [0] * slot + [1] + [0] * (39 - slot), rule)
                picks = [at for at in range(len(cells)) if plan[at] == slot]
                likings = [{"newest": cell[0], "oldest": slot - cell[0], "urgent": 9 * (40 - row[at]) + cell[0]}[rule]
                           for at, cell in enumerate(cells)]
                waiting = [(cell[1], cell[2], likings[at], row[at]) for at, cell in enumerate(cells)]
                self.assert_same(entry_best(waiting), picks)
                self.assertIs(is_steady(waiting, picks), True)
                if picks:
                    self.assert_same(pairings_at(4, cells, plan, slot), [picks])
                    self.assertIs(shows_pairings(4, cells, plan, slot, [picks]), True)


class ServedTest(TwinTest):

    def test_served_rows_and_plans(self):
        for cells, row in drawn(231, 30, 2, 4, 6):
            rows = [nth_busy(2, cells, index) for index in range(busy_count(2, cells))]
            for rhythm, rule in product(RHYTHMS, RULES):
                plan = run_plan(2, cells, row, rhythm, rule)
                fit = [busy for busy in rows if is_plan(2, cells, busy, plan)]
                self.assert_same([serves(2, cells, plan, busy) for busy in rows], [busy in fit for busy in rows])
                self.assert_same(served_count(2, cells, plan), len(fit))
                self.assert_same([nth_served(2, cells, plan, at) for at in range(len(fit))], fit)
                in_time = [busy for busy in rows if late_cells(2, cells, busy, plan) == []]
                self.assert_same(in_time, fit)
                self.assertIs(starved(2, cells, plan) is None, fit != [])
                for busy in fit:
                    self.assert_same(nth_busy(2, cells, busy_index(2, cells, busy)), busy)
                    self.assert_same(nth_served(2, cells, plan, served_index(2, cells, plan, busy)), busy)

    def test_each_busy_row_is_served_by_its_twin_plan(self):
        for cells, _ in drawn(232, 20, 3, 4, 8):
            for index in range(0, busy_count(3, cells), 1 + busy_count(3, cells) // 20):
                row = nth_busy(3, cells, index)
                plan = twin_plan(3, cells, row)
                self.assertIs(serves(3, cells, plan, row), True)
                self.assert_same(both_count(3, cells, plan, row), 1)
                self.assert_same(served_count(3, cells, row), 1)


class FramesTest(TwinTest):

    def test_frames_and_the_cells_of_their_rounds(self):
        for seed in range(60):
            source = random.Random(seed)
            length = source.randint(1, 5)
            size = source.randint(1, 4)
            places = sorted(source.sample([(slot, entry) for slot in range(length) for entry in range(size)], size))
            frame = (length, [(*place, source.randrange(size)) for place in places])
            rounds = 60 // size
            cells = unrolled(size, frame, rounds)
            row = first_come(size, cells)
            told = [(turn, index) for turn in range(rounds) for index in range(size)]
            self.assert_same([leaving_of(size, frame, turn, index) for turn, index in told], row)
            for outlet in range(size):
                behind = rounds * length
                self.assert_same(left_over(size, frame, outlet, rounds), waiting_count(size, cells, outlet, behind))
                for slot in busy_slots(size, cells, outlet):
                    turn, index = sender_at(size, frame, outlet, slot)
                    self.assertEqual(row[turn * size + index], slot)
                    self.assertEqual(frame[1][index][2], outlet)
            self._assert_clashes(size, frame, rounds, clashes(size, cells, row))

    def _assert_clashes(self, size, frame, rounds, found):
        self.assertEqual(clash_pairs(size, frame, rounds) == 0, found == [])
        clear = clear_rounds(size, frame)
        if found:
            self.assert_same(first_clash(size, frame), found[0])
            self.assertLess(clear, rounds)
            cells = unrolled(size, frame, clear)
            self.assert_same(clashes(size, cells, first_come(size, cells)), [])
            self.assertIsNotNone(plan_by_leaving(size, cells, first_come(size, cells), 1))
            cells = unrolled(size, frame, clear + 1)
            self.assertNotEqual(clashes(size, cells, first_come(size, cells)), [])
            self.assertIsNone(plan_by_leaving(size, cells, first_come(size, cells), 1))


class TextsTest(TwinTest):

    def test_consoles_texts_and_functions(self):
        for cells, row in drawn(241, 40):
            console = Console()
            self.assertEqual(console.execute("size 3"), "ok")
            if not cells:
                continue
            self.assertEqual(console.execute("cells " + format_cells(3, cells)), "ok")
            self.assert_same(parse_row(3, cells, console.execute("leaving")), first_come(3, cells))
            self.assertEqual(console.execute("row " + format_numbers(row)), "ok")
            self.assert_same(parse_row(3, cells, console.execute("leaving")), row)
            self.assert_same(parse_cells(3, format_cells(3, cells)), cells)
            plan = run_plan(3, cells, row, [2], "newest")
            self.assert_same(console.execute("run newest"), format_numbers(plan))
            self.assert_same(console.execute("late newest"), "none")
            self.assert_same(console.execute("served newest"), str(served_count(3, cells, plan)))
            self.assert_same(console.execute("busy"), "yes" if is_busy(3, cells, row) else "no")


class LaterTest(TwinTest):

    def test_cells_that_come_later(self):
        for cells, row in drawn(251, 20):
            for slots in (6, 6 * 10 ** 28):
                late = [(cell[0] + slots, *cell[1:]) for cell in cells]
                late_row = [leaving + slots for leaving in row]
                self.assert_same(first_come(3, late), [leaving + slots for leaving in first_come(3, cells)])
                self.assert_same(busy_count(3, late), busy_count(3, cells))
                self.assertIs(is_busy(3, late, late_row), is_busy(3, cells, row))
                self.assert_same(stays(3, late, late_row), stays(3, cells, row))
                for rhythm, rule in product(RHYTHMS, RULES):
                    plan = run_plan(3, cells, row, rhythm, rule)
                    # A multiple of the length of each of these rhythms, so the slots have the same numbers.
                    late_plan = [slot + slots for slot in plan]
                    self.assert_same(run_plan(3, late, late_row, rhythm, rule), late_plan)
                    self.assert_same(served_count(3, late, late_plan), served_count(3, cells, plan))
                    self.assert_same(unsure(3, late, late_row, rhythm), unsure(3, cells, row, rhythm))
                    self.assert_same(late_cells(3, late, late_row, late_plan), late_cells(3, cells, row, plan))
                if is_small(cells, row):
                    self.assert_same(least_pairs(3, late, late_row), least_pairs(3, cells, row))
                    self.assert_same(plan_count(3, late, late_row, (2, 2)), plan_count(3, cells, row, (2, 2)))


class RenamedTest(TwinTest):

    def test_ports_that_are_renamed(self):
        for seed, (cells, row) in enumerate(drawn(261, 40)):
            source = random.Random(seed)
            entries, outlets = source.sample(range(3), 3), source.sample(range(3), 3)
            table = []
            for index, (slot, entry, outlet) in enumerate(cells):
                table.append(((slot, entries[entry], outlets[outlet]), index))
            order = [index for _, index in sorted(table)]
            renamed = [cell for cell, _ in sorted(table)]
            renamed_row = [row[index] for index in order]
            self.assertIs(is_busy(3, renamed, renamed_row), is_busy(3, cells, row))
            self.assertIs(is_pressed(3, renamed, renamed_row), is_pressed(3, cells, row))
            self.assert_same(busy_count(3, renamed), busy_count(3, cells))
            for rhythm, rule in product(RHYTHMS, RULES):
                plan = run_plan(3, cells, row, rhythm, rule)
                renamed_plan = [plan[index] for index in order]
                self.assert_same(run_plan(3, renamed, renamed_row, rhythm, rule), renamed_plan)
                self.assert_same(speeds_of(3, renamed, renamed_plan), speeds_of(3, cells, plan))
                self.assert_same(served_count(3, renamed, renamed_plan), served_count(3, cells, plan))
            for outlet in range(3):
                self.assert_same(busy_slots(3, renamed, outlets[outlet]), busy_slots(3, cells, outlet))
            told = sorted([(slot, entries[entry]) for slot, entry in clashes(3, cells, row)])
            self.assert_same(clashes(3, renamed, renamed_row), told)
            for side in ("inputs", "outputs"):
                for rhythm in RHYTHMS:
                    found = jam(3, cells, row, rhythm, side) is None
                    self.assertIs(jam(3, renamed, renamed_row, rhythm, side) is None, found)
            if is_small(cells, row):
                self.assert_same(least_pairs(3, renamed, renamed_row), least_pairs(3, cells, row))
                for speeds in SPEEDS:
                    many = plan_count(3, cells, row, speeds)
                    self.assert_same(plan_count(3, renamed, renamed_row, speeds), many)
