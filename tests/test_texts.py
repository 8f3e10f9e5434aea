"""Point 30: cells and rows as texts, there and back."""

import random

from idealtwin import errors
from idealtwin.errors import InvalidCells, InvalidSize, InvalidText
from idealtwin.rows import first_come, is_cells, is_row
from idealtwin.texts import format_cells, format_numbers, parse_cells, parse_row
from tests.helpers import (
    ANY_VALUES, FOUR, THREE, TwinTest, all_rows, crowd, far_cells, small_lists, some_lists, some_row,
)

LAST = 10 ** 31 - 1
# What is no number: leading zeros, signs, 32 digits, other digits and marks.
NO_NUMBERS = [
    "", "00", "01", "+1", "-1", "-0", "1.0", "1e3", "0x1", "1_0", "x", " ", "\n", "1\n", "\t1", "\u0661", "\u00b2",
    "\uff11", "9" * 32, "1" + "0" * 31, "0" * 31, "1" * 20000, "None", "True", "[0]", "0,", ":", "1:", "(0", "1\u00a0",
]
NO_TEXTS = [value for value in ANY_VALUES if type(value) is not str]


class FormatTest(TwinTest):

    def test_cells(self):
        for size, cells, told in [
            (2, THREE, "0:0:0 0:1:0 1:1:1"), (8, FOUR, "0:0:0 0:1:0 1:0:0"), (1, [], ""), (8, [(10, 7, 6)], "10:7:6"),
            (3, [(10 ** 30 - 1, 2, 1)], "9" * 30 + ":2:1"),
        ]:
            self.assert_same(format_cells(size, cells), told)

    def test_numbers(self):
        for numbers, told in [
            ([], ""), ([0], "0"), ([0, 1, 1], "0 1 1"), ([LAST, 0, 10], "9" * 31 + " 0 10"),
            ([10 ** 39], "1" + "0" * 39),
            (list(range(1000)), " ".join(map(str, range(1000)))),
        ]:
            self.assert_same(format_numbers(numbers), told)

    def test_wrong_cells(self):
        self.assert_raises(InvalidSize, None, format_cells, 0, None)
        self.assert_raises(InvalidCells, ("index", 1), format_cells, 1, THREE)
        self.assert_raises(InvalidCells, ("index", None), format_cells, 2, tuple(THREE))


class ThereAndBackTest(TwinTest):

    def test_cells(self):
        lists = small_lists(2, 2) + some_lists(111, 40, 2, 30, 60) + [THREE, FOUR]
        for cells in lists:
            text = format_cells(2, cells)
            self.assert_same(parse_cells(2, text), cells)
            self.assertEqual(text.count(" "), max(0, len(cells) - 1))
        for cells in (crowd(), far_cells(), [(10 ** 30 - 1, 7, 7)]):
            self.assert_same(parse_cells(8, format_cells(8, cells)), cells)

    def test_rows(self):
        for cells in small_lists(2, 1):
            for row in all_rows(cells, 3):
                self.assert_same(parse_row(2, cells, format_numbers(row)), row)
        for cells in (crowd(), far_cells()):
            for row in (first_come(8, cells), some_row(1, cells, 99)):
                self.assert_same(parse_row(8, cells, format_numbers(row)), row)
        self.assert_same(parse_row(1, [(10 ** 30 - 1, 0, 0)], "9" * 31), [LAST])
        self.assert_same([parse_cells(8, ""), parse_row(8, [], "")], [[], []])

    def test_results_are_new(self):
        found = parse_cells(2, "0:0:0")
        found.append(None)
        self.assert_same(parse_cells(2, "0:0:0"), [(0, 0, 0)])
        row = parse_row(2, THREE, "0 1 1")
        row.append(None)
        self.assert_same(parse_row(2, THREE, "0 1 1"), [0, 1, 1])


class ParseCellsTest(TwinTest):

    def assert_wrong(self, size, text, word):
        self.assert_raises(InvalidText, ("word", word), parse_cells, size, text)

    def test_values_that_are_no_strings(self):
        for value in NO_TEXTS:
            self.assert_wrong(2, value, None)

    def test_some_texts(self):
        for text, word in [
            ("0:0:0 0:0:1", 1), ("0:0:0 0:0:0", 1), ("0:1:0 0:0:0", 1), ("1:0:0 0:1:0", 1), (" ", 0), (" 0:0:0", 0),
            ("0:0:0 ", 1), ("0:0:0  0:1:0", 1), ("  ", 0), ("0:0:0 0:1:0  ", 2), ("0", 0), ("0:0", 0), ("0:0:0:0", 0),
            (":0:0", 0), ("0::0", 0), ("0:0:", 0), ("0:0:0,0:1:0", 0), ("(0, 0, 0)", 0), ("0:2:0", 0), ("0:0:2", 0),
            ("0:0:0 1:0:0 1:2:0", 2), ("0:0:0\n0:1:0", 0), ("0:0:0 0:1:0\n", 1), ("1" + "0" * 30 + ":0:0", 0),
            ("0:0:0 x 0:2:0", 1), ("x x x", 0), ("0:0:0 1:1:1 1:1:0 x", 2), ("-1:0:0", 0), ("0:-0:0", 0), ("00:0:0", 0),
        ]:
            self.assert_wrong(2, text, word)

    def test_no_numbers(self):
        for text in NO_NUMBERS:
            for word in (f"{text}:0:0", f"0:{text}:0", f"0:0:{text}"):
                self.assert_wrong(2, word, 0)

    def test_the_number_of_the_word(self):
        words = format_cells(8, crowd()).split(" ")
        for at in range(60):
            for wrong in ("", "x", "0:0:8", "00:0:5", words[at - 1] if at else "0:8:0"):
                self.assert_wrong(8, " ".join(words[:at] + [wrong] + words[at + 1:]), at)
                self.assert_wrong(8, " ".join(words[:at] + [wrong]) if at or wrong else " ", at)

    def test_a_61st_cell(self):
        words = format_cells(8, crowd()).split(" ")
        for more in ("7:7:7", "8:0:0", "x", "", "0:0:0"):
            self.assert_wrong(8, " ".join(words + [more]), 60)
        self.assert_wrong(8, " ".join(words + ["8:0:0"] * 100), 60)
        self.assert_wrong(1, " ".join([f"{slot}:0:0" for slot in range(2000)]), 60)
        self.assert_same(len(parse_cells(1, " ".join([f"{slot}:0:0" for slot in range(60)]))), 60)
        self.assert_wrong(8, " ".join(words[:59] + ["x", "x"]), 59)

    def test_the_first_wrong_word_of_drawn_texts(self):
        for seed in range(400):
            source = random.Random(seed)
            words = [f"{source.randrange(4 + at)}:{source.randrange(3)}:{source.randrange(2)}" for at in range(7)]
            cells, told = [], None
            for at, word in enumerate(words):
                cells.append(tuple(map(int, word.split(":"))))
                if not is_cells(2, cells):
                    told = at
                    break
            if told is None:
                self.assert_same(parse_cells(2, " ".join(words)), cells)
            else:
                self.assert_wrong(2, " ".join(words), told)

    def test_sizes(self):
        self.assert_raises(InvalidSize, None, parse_cells, 0, None)
        self.assert_raises(InvalidSize, None, parse_cells, True, "x")
        self.assert_wrong(1, "0:0:0 1:1:0", 1)


class ParseRowTest(TwinTest):

    def assert_wrong(self, cells, text, word):
        self.assert_raises(InvalidText, ("word", word), parse_row, 2, cells, text)

    def test_values_that_are_no_strings(self):
        for value in NO_TEXTS:
            self.assert_wrong(THREE, value, None)
            self.assert_wrong([], value, None)

    def test_some_texts(self):
        for text, word in [
            ("", 0), ("0", 1), ("0 1", 2), ("0 1 1 1", 3), ("0 1 1 x", 3), ("0 1 1 ", 3), (" ", 0), (" 0 1 1", 0),
            ("0  1 1", 1), ("0 0 1", 1), ("1 1 1", 1), ("0 1 0", 2), ("0 1 x", 2), ("0 x", 1), ("0 1,1", 1),
            ("0:0:0", 0), ("0 1 " + "1" * 32, 2), ("01 1 1", 0), ("-1 1 1", 0), ("0 1 1\n", 2), ("[0, 1, 1]", 0),
            ("0 0", 1), ("x", 0), ("0 1 1 1 1 1", 3),
        ]:
            self.assert_wrong(THREE, text, word)
        for text, word in [("0", 0), (" ", 0), ("x", 0), ("0 0", 0)]:
            self.assert_wrong([], text, word)
        self.assert_same(parse_row(2, THREE, "1 0 1"), [1, 0, 1])
        self.assert_same(parse_row(2, THREE, "0 1 " + "9" * 31), [0, 1, LAST])

    def test_no_numbers(self):
        for text in NO_NUMBERS:
            if text != " ":
                self.assert_wrong(THREE, f"{text} 1 1", 0)
                self.assert_wrong(THREE, f"0 {text} 1", 1)
                self.assert_wrong(THREE, f"0 1 {text}", 2)
                self.assert_wrong(THREE, f"0 1 1 {text}", 3)

    def test_one_word_more_or_less(self):
        for cells in (crowd(), far_cells()):
            words = format_numbers(first_come(8, cells)).split(" ")
            for many in range(1, 60):
                self.assert_raises(InvalidText, ("word", many), parse_row, 8, cells, " ".join(words[:many]))
            for more in ("0", "x", "", "9" * 31):
                self.assert_raises(InvalidText, ("word", 60), parse_row, 8, cells, " ".join(words + [more]))

    def test_the_first_wrong_word_of_drawn_texts(self):
        for seed in range(300):
            source = random.Random(seed)
            cells = some_lists(seed, 1, 2, 3, 6)[0]
            row = [cell[0] + source.randrange(-1, 4) for cell in cells]
            wrong = [at for at in range(len(cells)) if not is_row(2, cells[:at + 1], row[:at + 1])]
            if wrong:
                self.assert_wrong(cells, format_numbers(row), wrong[0])
            else:
                self.assert_same(parse_row(2, cells, format_numbers(row)), row)

    def test_sizes_and_cells(self):
        self.assert_raises(InvalidSize, None, parse_row, 0, None, None)
        self.assert_raises(InvalidCells, ("index", 1), parse_row, 1, THREE, None)
        self.assert_raises(InvalidCells, ("index", None), parse_row, 2, None, "x")
        self.assert_raises(InvalidCells, ("index", 0), parse_row, 2, [errors.InvalidRow(1)], "x")
