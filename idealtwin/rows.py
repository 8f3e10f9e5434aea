"""Lists of cells and rows of leaving slots; busy rows, counted and numbered."""

from idealtwin.checks import check_cells, check_number, check_port, check_row, check_slot
from idealtwin.errors import InvalidCells, InvalidNumber, InvalidRow, NotBusy
from idealtwin.numbering import digits_of, index_of_digits, number_of_lists
from idealtwin.queues import choices_of, chosen_row, coming_slots, first_come_row, first_gap, ready_in, ready_numbers


def is_cells(size, value):
    """Return whether any value is a list of cells."""
    try:
        check_cells(size, value)
    except InvalidCells:
        return False
    return True


def is_row(size, cells, value):
    """Return whether any value is a row for these cells."""
    try:
        check_row(size, cells, value)
    except InvalidRow:
        return False
    return True


def resting(size, cells, row):
    """Return the least (slot, outlet) in which an output rests although a cell of it is there."""
    check_row(size, cells, row)
    spans = [(cell[0], leaving, cell[2]) for cell, leaving in zip(cells, row)]
    return first_gap(spans, {(leaving, cell[2]): True for cell, leaving in zip(cells, row)})


def is_busy(size, cells, row):
    """Return whether each output sends a cell whenever a cell of it is there."""
    return resting(size, cells, row) is None


def stays(size, cells, row):
    """Return the numbers of slots of all stays."""
    check_row(size, cells, row)
    return [leaving - cell[0] + 1 for cell, leaving in zip(cells, row)]


def first_come(size, cells):
    """Return the busy row that always sends the waiting cell with the least index."""
    check_cells(size, cells)
    return first_come_row(cells)


def last_come(size, cells):
    """Return the busy row that always sends the waiting cell with the greatest index."""
    check_cells(size, cells)
    return chosen_row(cells, coming_slots(cells), [-1] * len(cells))


def busy_slots(size, cells, outlet):
    """Return the ascending slots in which an output sends a cell in all busy rows."""
    check_cells(size, cells)
    check_port(size, outlet)
    row = first_come_row(cells)
    return [leaving for cell, leaving in zip(cells, row) if cell[2] == outlet]


def waiting_count(size, cells, outlet, slot):
    """Return how many cells of an output have come by a slot and have not left ahead of it."""
    check_cells(size, cells)
    check_port(size, outlet)
    check_slot(slot)
    return len(ready_in(cells, coming_slots(cells), first_come_row(cells), outlet, slot))


def busy_count(size, cells):
    """Return the number of the busy rows."""
    check_cells(size, cells)
    return number_of_lists(ready_numbers(cells, coming_slots(cells)))


def nth_busy(size, cells, index):
    """Return the busy row with an index, the rows ascending by their choices."""
    check_cells(size, cells)
    check_number(index)
    coming = coming_slots(cells)
    numbers = ready_numbers(cells, coming)
    if index >= number_of_lists(numbers):
        raise InvalidNumber("an index is less than the number of the busy rows")
    return chosen_row(cells, coming, digits_of(index, numbers))


def busy_index(size, cells, row):
    """Return the index of a busy row."""
    if not is_busy(size, cells, row):
        raise NotBusy("only busy rows have an index")
    coming = coming_slots(cells)
    return index_of_digits(choices_of(cells, coming, row), ready_numbers(cells, coming))
