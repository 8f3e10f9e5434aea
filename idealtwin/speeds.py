"""Which speeds of the two sides are enough for all rows, and cells for which the others fail."""

from idealtwin.checks import check_size, check_speeds
from idealtwin.queues import first_come_row
from idealtwin.turns import turned_cells, turned_row


def is_enough(size, speeds):
    """Return whether each row of cells of this size has a plan that keeps the speeds."""
    check_size(size)
    check_speeds(speeds)
    return min(speeds) >= 2 or max(speeds) >= size


def least_speeds(size):
    """Return the ascending speeds that are enough and of which neither number can be less."""
    check_size(size)
    # Below size 3 one of the numbers of (2, 2) can be 1.
    both = [(2, 2)] if size >= 3 else []
    return sorted(set([(1, size), (size, 1)] + both))


def forcing(size, speeds):
    """Return cells and a row without a plan that keeps the speeds; None if the speeds are enough."""
    if is_enough(size, speeds):
        return None
    cells = _forcing_cells(max(speeds))
    row = first_come_row(cells)
    if speeds[0] == 1:
        return cells, row
    last = max(row)
    return turned_cells(size, cells, row, last), turned_row(size, cells, row, last)


def _forcing_cells(number):
    """Return the cells of which output 0 gets number + 1 at once if each input sends at most one in a slot."""
    cells = [(0, entry, 0) for entry in range(number + 1)]
    for slot in range(1, number + 1):
        for entry in range(slot, number + 1):
            cells.append((slot, entry, entry - slot + 1))
    return cells
