"""The examples of the document, as they stand there."""

import pathlib

from idealtwin import errors
from tests.helpers import TwinTest

ROWS = """
>>> from idealtwin.rows import busy_slots, first_come, is_busy, is_cells, is_row, last_come, resting, stays, waiting_count
>>> [is_cells(2, value) for value in [three, [(0, 1, 0), (0, 0, 0)], [(0, 0, 0), (0, 0, 1)], [(0, 2, 0)], []]]
[True, False, False, False, True]
>>> [is_row(2, three, value) for value in [[0, 1, 1], [1, 0, 1], [0, 0, 1], [0, 1, 0], [0, 2, 1]]]
[True, True, False, False, True]
>>> [first_come(2, three), last_come(2, three), is_busy(2, three, [0, 2, 1]), resting(2, three, [0, 2, 1]), stays(2, three, [0, 2, 1])]
[[0, 1, 1], [1, 0, 1], False, (1, 0), [1, 3, 1]]
>>> [busy_slots(2, four, 0), busy_slots(2, four, 1), [waiting_count(2, four, 0, slot) for slot in range(4)], busy_slots(1, [(10 ** 29, 0, 0)], 0) == [10 ** 29]]
[[0, 1, 2], [], [2, 2, 1, 0], True]
"""

BUSY_ROWS = """
>>> from idealtwin.rows import busy_count, busy_index, nth_busy
>>> [busy_count(2, four), [nth_busy(2, four, index) for index in range(4)], busy_index(2, four, [1, 0, 2])]
[4, [[0, 1, 2], [0, 2, 1], [1, 0, 2], [2, 0, 1]], 2]
"""

TURNS = """
>>> from idealtwin.turns import is_pressed, turned_cells, turned_indices, turned_plan, turned_row, unpressed
>>> [turned_cells(2, three, [0, 1, 1], 1), turned_row(2, three, [0, 1, 1], 1), turned_indices(2, three, [0, 1, 1]), turned_plan(2, three, [0, 1, 1], [0, 1, 1], 1)]
[[(0, 0, 1), (0, 1, 1), (1, 0, 0)], [1, 0, 1], [1, 2, 0], [0, 0, 1]]
>>> [is_pressed(2, three, [0, 1, 1]), is_pressed(2, three, [0, 2, 1]), unpressed(2, three, [0, 2, 1])]
[True, False, (2, 1)]
"""

# The document has no example under these two files that raises; these show that one would be checked.
RAISING = """
>>> from idealtwin.rows import busy_index, first_come
>>> from idealtwin.turns import turned_row
>>> busy_index(2, three, [0, 2, 1])
raises NotBusy
>>> busy_index(2, three, [0, 0, 1])
raises InvalidRow(index=1)
>>> first_come(2, None)
raises InvalidCells(index=None)
>>> turned_row(2, three, [0, 2, 1], 1)
raises Impossible
"""


class ExamplesTest(TwinTest):

    def test_rows(self):
        self.run_examples(ROWS, errors)

    def test_busy_rows(self):
        self.run_examples(BUSY_ROWS, errors)

    def test_turns(self):
        self.run_examples(TURNS, errors)

    def test_raising(self):
        self.run_examples(RAISING, errors)

    def test_a_wrong_example_fails(self):
        for text in [
            ">>> 1 + 1\n3", ">>> 1\nTrue", ">>> 1 + 1\nraises NotBusy",
            ROWS.replace("(1, 0), [1, 3, 1]", "(1, 1), [1, 3, 1]"), RAISING.replace("index=1", "index=2"),
        ]:
            with self.subTest(text=text):
                with self.assertRaises(AssertionError):
                    self.run_examples(text, errors)


class ReadmeTest(TwinTest):

    def test_examples(self):
        text = (pathlib.Path(__file__).resolve().parent.parent / "README.md").read_text(encoding="utf-8")
        self.run_examples(text, errors)
