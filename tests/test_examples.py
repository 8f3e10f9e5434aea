"""The examples of the document, as they stand there."""

import pathlib

from idealtwin import errors
from tests.helpers import TwinTest

ROWS = """
>>> from idealtwin.rows import busy_slots, first_come, is_busy, is_cells, is_row, last_come, resting, stays, waiting_count
>>> [is_cells(2, value) for value in [three, [(0, 1, 0), (0, 0, 0)], [(0, 0, 0), (0, 0, 1)], [(0, 2, 0)], []]]
[True, False, False, False, True]
>>> [is_row(2, three, value) for value in [[0, 1, 1], [1, 0, 1], [0, 0, 1], [0, 1, 0], [0, 2, 1]]]
[True, True, False, False, True]
>>> [first_come(2, three), last_come(2, three), is_busy(2, three, [0, 2, 1]), resting(2, three, [0, 2, 1]), stays(2, three, [0, 2, 1])]
[[0, 1, 1], [1, 0, 1], False, (1, 0), [1, 3, 1]]
>>> [busy_slots(2, four, 0), busy_slots(2, four, 1), [waiting_count(2, four, 0, slot) for slot in range(4)], busy_slots(1, [(10 ** 29, 0, 0)], 0) == [10 ** 29]]
[[0, 1, 2], [], [2, 2, 1, 0], True]
"""

BUSY_ROWS = """
>>> from idealtwin.rows import busy_count, busy_index, nth_busy
>>> [busy_count(2, four), [nth_busy(2, four, index) for index in range(4)], busy_index(2, four, [1, 0, 2])]
[4, [[0, 1, 2], [0, 2, 1], [1, 0, 2], [2, 0, 1]], 2]
"""

TURNS = """
>>> from idealtwin.turns import is_pressed, turned_cells, turned_indices, turned_plan, turned_row, unpressed
>>> [turned_cells(2, three, [0, 1, 1], 1), turned_row(2, three, [0, 1, 1], 1), turned_indices(2, three, [0, 1, 1]), turned_plan(2, three, [0, 1, 1], [0, 1, 1], 1)]
[[(0, 0, 1), (0, 1, 1), (1, 0, 0)], [1, 0, 1], [1, 2, 0], [0, 0, 1]]
>>> [is_pressed(2, three, [0, 1, 1]), is_pressed(2, three, [0, 2, 1]), unpressed(2, three, [0, 2, 1])]
[True, False, (2, 1)]
"""

PLANS = """
>>> from idealtwin.plans import is_plan, keeps_rhythm, keeps_speeds, pairings_at, shows_pairings, speeds_of
>>> [speeds_of(2, three, [0, 1, 1]), speeds_of(2, three, [0, 0, 1]), is_plan(2, three, [0, 1, 1], [0, 0, 1]), is_plan(2, three, [0, 1, 1], [1, 1, 1])]
[(2, 1), (1, 2), True, False]
>>> [keeps_speeds(2, three, [0, 0, 1], (1, 2)), keeps_speeds(2, three, [0, 0, 1], (1, 1)), keeps_rhythm(2, three, [0, 0, 1], [2, 1]), keeps_rhythm(2, three, [0, 0, 1], [1, 2])]
[True, False, True, False]
>>> [shows_pairings(2, three, [0, 1, 1], 1, value) for value in [[[2], [1]], [[1, 2]], [[1], [2], []]]], pairings_at(2, three, [0, 1, 1], 0)
([True, False, False], [[0]])
"""

SLOWSIDES = """
>>> from idealtwin.slowsides import bunch_number, bunches, clash_number, clashes, plan_by_coming, plan_by_leaving
>>> [clashes(2, three, [0, 1, 1]), clash_number(2, three, [0, 1, 1]), bunches(2, three), bunch_number(2, three)]
[[(1, 1)], 2, [(0, 0)], 2]
>>> [plan_by_leaving(2, three, [0, 1, 1], number) for number in (1, 2)] + [plan_by_coming(2, three, [0, 1, 1], number) for number in (1, 2)]
[None, [0, 1, 1], None, [0, 0, 1]]
>>> plan_by_leaving(2, three, [0, 2, 1], 2)
raises NotBusy
"""

JAMS = """
>>> from idealtwin.slowsides import jam, shows_jam, shows_side_plan, side_plan
>>> [side_plan(2, three, [0, 1, 1], [1], "inputs"), jam(2, three, [0, 1, 1], [1], "outputs"), side_plan(2, three, [0, 1, 1], [0, 2], "inputs")]
[[0, 0, 1], None, None]
>>> [shows_jam(2, three, [0, 1, 1], [0, 2], "inputs", value) for value in [(0, 0, 0), (1, 0, 1), (0, 1, 0)]], shows_side_plan(2, three, [0, 1, 1], [2], "inputs", [0, 1, 1])
([True, False, False], True)
"""

SPEEDS = """
>>> from idealtwin.speeds import forcing, is_enough, least_speeds
>>> [is_enough(3, speeds) for speeds in [(2, 2), (1, 2), (1, 3), (9, 1)]], [least_speeds(size) for size in (1, 2, 3)]
([True, False, True, True], [[(1, 1)], [(1, 2), (2, 1)], [(1, 3), (2, 2), (3, 1)]])
>>> [forcing(2, (1, 1)) == (three, [0, 1, 1]), forcing(2, (2, 2)), forcing(3, (1, 2))]
[True, None, ([(0, 0, 0), (0, 1, 0), (0, 2, 0), (1, 1, 1), (1, 2, 2), (2, 2, 1)], [0, 1, 2, 1, 1, 2])]
>>> forcing(3, (2, 1))
([(0, 0, 2), (0, 1, 2), (1, 0, 1), (1, 1, 1), (1, 2, 2), (2, 0, 0)], [2, 0, 2, 1, 1, 2])
"""

RHYTHMS = """
>>> from idealtwin.rhythms import breaking, rhythm_word, unsure
>>> [unsure(2, three, [0, 1, 1], rhythm) for rhythm in [[1], [1, 2], [2, 1], [2]]]
[[1], [], [], []]
>>> [rhythm_word(2, [1], 1), rhythm_word(2, [1], 2), rhythm_word(2, [1, 2], 2), rhythm_word(2, [1, 2], 3), rhythm_word(1, [1], 9), rhythm_word(2, [2], 10 ** 30)]
['sure', 'fails', 'sure', 'open', 'sure', 'sure']
>>> [breaking(2, [1], 2) == (three, [0, 1, 1]), breaking(2, [2, 0], 1), breaking(2, [2, 1, 1], 5), breaking(2, [1, 2], 9)]
[True, ([(1, 0, 0)], [1]), ([(1, 0, 0), (1, 1, 0), (2, 1, 1)], [1, 2, 2]), None]
"""

STEADY = """
>>> from idealtwin.steady import better, disturber, entry_best, is_steady, nth_steady, outlet_best, steady_count, worse
>>> waiting = [(0, 0, 0, 0), (1, 0, 0, 1), (1, 1, 1, 1)]
>>> [entry_best(waiting), is_steady(waiting, [0, 2]), is_steady(waiting, [1]), disturber(waiting, [1]), steady_count(waiting)]
[[0, 2], True, False, 0, 1]
>>> crossed = [(0, 0, 2, 2), (0, 1, 1, 1), (1, 1, 2, 2), (1, 0, 1, 1)]
>>> [entry_best(crossed), outlet_best(crossed), steady_count(crossed), nth_steady(crossed, 1), better(crossed, [0, 2], [1, 3]), worse(crossed, [0, 2], [1, 3])]
[[0, 2], [1, 3], 2, [1, 3], [0, 2], [1, 3]]
"""

TWINS = """
>>> from idealtwin.twins import late_cells, run_plan, twin_plan
>>> [run_plan(2, three, [0, 1, 1], [2], "newest"), run_plan(2, three, [0, 1, 1], [1], "newest"), run_plan(2, three, [0, 1, 1], [1], "oldest"), run_plan(2, three, [0, 1, 1], [1], "urgent")]
[[0, 0, 1], [0, 2, 1], [0, 1, 2], [0, 2, 1]]
>>> [late_cells(2, three, [0, 1, 1], [0, 2, 1]), late_cells(2, three, [0, 1, 1], twin_plan(2, three, [0, 1, 1])), run_plan(1, [(10 ** 29, 0, 0)], [10 ** 29], [0, 1], "newest") == [10 ** 29 + 1]]
[[1], [], True]
"""

SERVING = """
>>> from idealtwin.serving import both_count, nth_served, served_count, served_index, serves, serves_some, starved
>>> [serves(2, four, [0, 1, 1], row) for row in ([0, 1, 2], [1, 0, 2])], [served_count(2, four, crossings) for crossings in ([0, 0, 1], [0, 1, 1], [1, 0, 1], [1, 1, 1])]
([True, False], [4, 2, 2, 0])
>>> [nth_served(2, four, [1, 0, 1], index) for index in (0, 1)], served_index(2, four, [1, 0, 1], [2, 0, 1]), both_count(2, four, [0, 1, 1], [0, 0, 2])
([[1, 0, 2], [2, 0, 1]], 1, 1)
>>> [serves_some(2, four, [1, 1, 1]), starved(2, four, [1, 1, 1]), starved(2, four, [0, 2, 2]), starved(2, four, [0, 1, 1])]
[False, (0, 0), (1, 0), None]
"""

FRAMES = """
>>> from idealtwin.frames import is_frame, leaving_of, left_over, sender_at, unrolled
>>> even = (2, three)
>>> pair = (1, [(0, 0, 0), (0, 1, 0)])
>>> [is_frame(2, even), is_frame(2, (1, three)), unrolled(2, pair, 2), [left_over(2, pair, 0, rounds) for rounds in (0, 1, 5, 10 ** 30)] == [0, 1, 5, 10 ** 30], left_over(2, even, 0, 7)]
[True, False, [(0, 0, 0), (0, 1, 0), (1, 0, 0), (1, 1, 0)], True, 0]
>>> [leaving_of(2, pair, 3, 1), sender_at(2, pair, 0, 7), leaving_of(2, even, 5, 1), sender_at(2, even, 1, 4), leaving_of(2, pair, 10 ** 29, 0) == 2 * 10 ** 29]
[7, (3, 1), 11, None, True]
"""

CLASHING_FRAMES = """
>>> from idealtwin.frames import clash_pairs, clear_rounds, first_clash
>>> mixed = (2, [(0, 0, 0), (0, 1, 0), (1, 0, 1), (1, 1, 0)])
>>> [clash_pairs(2, even, 10 ** 30) == 10 ** 30, first_clash(2, even), clear_rounds(2, even), first_clash(2, pair), clear_rounds(2, pair)]
[True, (1, 1), 0, None, None]
>>> [[clash_pairs(2, mixed, rounds) for rounds in (1, 2, 10)], first_clash(2, mixed), clear_rounds(2, mixed)]
[[0, 1, 3], (3, 0), 1]
"""

SMALL = """
>>> from idealtwin.small import has_plan, least_pairs, nth_plan, plan_count
>>> [has_plan(2, three, [0, 1, 1], (1, 1)), [plan_count(2, three, [0, 1, 1], speeds) for speeds in ((1, 1), (2, 1), (1, 2), (2, 2))], least_pairs(2, three, [0, 1, 1])]
[False, [0, 1, 1, 2], [(1, 2), (2, 1)]]
>>> [nth_plan(2, three, [0, 1, 1], (2, 2), index) for index in (0, 1)]
[[0, 0, 1], [0, 1, 1]]
"""

SWITCHES = """
>>> from idealtwin.switches import CountingSwitch, OldestSwitch, Switch
>>> switch = Switch(2, [1])
>>> [switch.tick([(0, 0), (1, 0)]), switch.tick([(1, 1)]), switch.late, switch.waiting, switch.tick([]), switch.described()]
[[0], [2], [1], [1], [1], ['slot 3', 'waiting 0', 'late 0']]
>>> [switch.undo(), switch.late, switch.leaving(1), switch.crossing(1), switch.crossing(2), len(switch)]
[None, [1], 1, None, 1, 3]
>>> other = OldestSwitch(2, [1])
>>> [other.tick([(0, 0), (1, 0)]), other.tick([(1, 1)]), other.late, other == other.twin(), other == switch]
[[0], [1], [2], True, False]
>>> counting = CountingSwitch(2, [2])
>>> [counting.tick([(0, 0), (1, 0)]), counting.held, counting.tick([(1, 1)]), counting.idle, counting.described()[3]]
[[0], [1], [1, 2], 1, 'idle 1']
"""

TEXTS = """
>>> from idealtwin.texts import format_cells, format_numbers, parse_cells, parse_row
>>> [format_cells(2, three), format_numbers([0, 1, 1]), format_numbers([]), parse_cells(2, "0:0:0 0:1:0") == three[:2], parse_row(2, three, "0 1 1")]
['0:0:0 0:1:0 1:1:1', '0 1 1', '', True, [0, 1, 1]]
>>> parse_cells(2, "0:0:0 0:0:1")
raises InvalidText(word=1)
"""

SHORT_TEXTS = """
>>> from idealtwin.texts import parse_row
>>> parse_row(2, three, "0 1")
raises InvalidText(word=2)
"""

CONSOLE = """
>>> from idealtwin.console import Console
>>> console = Console()
>>> [console.execute(command) for command in ["size 2", "cells 0:0:0 0:1:0 1:1:1", "leaving", "clash", "run newest", "rhythm 1", "late newest", "unsure", "word 2", "count"]]
['ok', 'ok', '0 1 1', '2', '0 0 1', 'ok', '1', '1', 'fails', '2']
>>> [console.execute(command) for command in ["last", "leaving", "busy", "pressed", "served oldest", "enough 2 2", "row 0 2 1", "busy"]]
['ok', '1 0 1', 'yes', 'no', '1', 'yes', 'ok', 'no']
>>> console.execute("row 0 0 1")
raises InvalidRow(index=1)
"""

# The document has no example under rows.py and turns.py that raises; these show that one would be checked.
RAISING = """
>>> from idealtwin.rows import busy_index, first_come
>>> from idealtwin.turns import turned_row
>>> busy_index(2, three, [0, 2, 1])
raises NotBusy
>>> busy_index(2, three, [0, 0, 1])
raises InvalidRow(index=1)
>>> first_come(2, None)
raises InvalidCells(index=None)
>>> turned_row(2, three, [0, 2, 1], 1)
raises Impossible
"""


class ExamplesTest(TwinTest):

    def test_rows(self):
        self.run_examples(ROWS, errors)

    def test_busy_rows(self):
        self.run_examples(BUSY_ROWS, errors)

    def test_turns(self):
        self.run_examples(TURNS, errors)

    def test_plans(self):
        self.run_examples(PLANS, errors)

    def test_slowsides(self):
        self.run_examples(SLOWSIDES, errors)

    def test_jams(self):
        self.run_examples(JAMS, errors)

    def test_speeds(self):
        self.run_examples(SPEEDS, errors)

    def test_rhythms(self):
        self.run_examples(RHYTHMS, errors)

    def test_steady(self):
        self.run_examples(STEADY, errors)

    def test_twins(self):
        self.run_examples(TWINS, errors)

    def test_serving(self):
        self.run_examples(SERVING, errors)

    def test_frames(self):
        self.run_examples(FRAMES, errors)

    def test_clashing_frames(self):
        self.run_examples(FRAMES + CLASHING_FRAMES, errors)

    def test_small(self):
        self.run_examples(SMALL, errors)

    def test_switches(self):
        self.run_examples(SWITCHES, errors)

    def test_texts(self):
        self.run_examples(TEXTS, errors)

    def test_short_texts(self):
        self.run_examples(SHORT_TEXTS, errors)

    def test_console(self):
        self.run_examples(CONSOLE, errors)

    def test_raising(self):
        self.run_examples(RAISING, errors)

    def test_a_wrong_example_fails(self):
        for text in [
            ">>> 1 + 1\n3", ">>> 1\nTrue", ">>> 1 + 1\nraises NotBusy",
            ROWS.replace("(1, 0), [1, 3, 1]", "(1, 1), [1, 3, 1]"), RAISING.replace("index=1", "index=2"),
        ]:
            with self.subTest(text=text):
                with self.assertRaises(AssertionError):
                    self.run_examples(text, errors)


class ReadmeTest(TwinTest):

    def test_examples(self):
        text = (pathlib.Path(__file__).resolve().parent.parent / "README.md").read_text(encoding="utf-8")
        self.run_examples(text, errors)
