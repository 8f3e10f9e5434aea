"""Cells, rows and plans turned about in time; pressed rows."""

from idealtwin.checks import LAST_COMING, check_crossings, check_row, check_slot
from idealtwin.errors import Impossible
from idealtwin.queues import first_gap


def turned_cells(size, cells, row, last):
    """Return the cells turned about by a last slot."""
    check_row(size, cells, row)
    check_slot(last)
    _check_turn(row, last)
    return [(last - row[index], cells[index][2], cells[index][1]) for index in _turned_order(cells, row)]


def turned_row(size, cells, row, last):
    """Return the row of the cells turned about by a last slot."""
    check_row(size, cells, row)
    check_slot(last)
    _check_turn(row, last)
    return [last - cells[index][0] for index in _turned_order(cells, row)]


def turned_indices(size, cells, row):
    """Return the indices that the cells turned about had before, in their new sequence."""
    check_row(size, cells, row)
    return _turned_order(cells, row)


def turned_plan(size, cells, row, crossings, last):
    """Return the crossing slots turned about by a last slot, in the new sequence of the cells."""
    check_row(size, cells, row)
    check_crossings(cells, crossings)
    check_slot(last)
    _check_turn(row, last)
    if max(crossings, default=0) > last:
        raise Impossible("a cell crosses behind the last slot")
    return [last - crossings[index] for index in _turned_order(cells, row)]


def unpressed(size, cells, row):
    """Return the least (slot, entry) in which no cell comes although a cell of the input is there."""
    check_row(size, cells, row)
    spans = [(cell[0], leaving, cell[1]) for cell, leaving in zip(cells, row)]
    return first_gap(spans, {(cell[0], cell[1]): True for cell in cells})


def is_pressed(size, cells, row):
    """Return whether a cell comes to each input whenever a cell of it is there."""
    return unpressed(size, cells, row) is None


def _check_turn(row, last):
    if max(row, default=0) > last:
        raise Impossible("a cell leaves behind the last slot")
    if last - min(row, default=last) > LAST_COMING:
        raise Impossible("a cell would come in slot 10 ** 30 or later")


def _turned_order(cells, row):
    # The slots in which cells come turned about ascend as leaving slots descend, whatever the last slot is.
    keys = sorted([(-leaving, cells[index][2], index) for index, leaving in enumerate(row)])
    return [key[2] for key in keys]
