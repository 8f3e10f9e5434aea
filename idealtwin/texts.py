"""Cells and rows as texts, there and back."""

from idealtwin.checks import check_cells, check_size
from idealtwin.errors import InvalidText
from idealtwin.rows import is_cells, is_row
from idealtwin.words import number_in, triple_in, words_of


def format_cells(size, cells):
    """Return the text of a list of cells."""
    check_cells(size, cells)
    return " ".join([f"{slot}:{entry}:{outlet}" for slot, entry, outlet in cells])


def format_numbers(numbers):
    """Return the text of a list of integers from 0 on."""
    return " ".join([str(number) for number in numbers])


def parse_cells(size, text):
    """Return the cells with a text."""
    check_size(size)
    cells = []
    for number, word in enumerate(_checked_words(text)):
        cells.append(triple_in(word))
        if not is_cells(size, cells):
            raise InvalidText(number)
    return cells


def parse_row(size, cells, text):
    """Return the row for cells with a text."""
    check_cells(size, cells)
    row = []
    for number, word in enumerate(_checked_words(text)):
        row.append(number_in(word))
        if not is_row(size, cells[:number + 1], row):
            raise InvalidText(number)
    if len(row) < len(cells):
        raise InvalidText(len(row))
    return row


def _checked_words(text):
    if not isinstance(text, str):
        raise InvalidText(None)
    return words_of(text)
