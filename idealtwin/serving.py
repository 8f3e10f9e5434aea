"""Which busy rows crossing slots serve: counted and numbered."""

from idealtwin.checks import check_cells, check_crossings, check_number, check_row
from idealtwin.errors import Impossible, InvalidNumber, NotBusy
from idealtwin.numbering import digits_of, index_of_digits, number_of_lists
from idealtwin.queues import choices_of, chosen_row, departures, ready_numbers
from idealtwin.rows import is_busy


def serves(size, cells, crossings, row):
    """Return whether each cell crosses by its leaving slot."""
    check_cells(size, cells)
    check_crossings(cells, crossings)
    check_row(size, cells, row)
    return all([crossing <= leaving for crossing, leaving in zip(crossings, row)])


def serves_some(size, cells, crossings):
    """Return whether crossing slots serve some busy row."""
    return starved(size, cells, crossings) is None


def starved(size, cells, crossings):
    """Return the least (slot, outlet) by which an output got fewer cells than it has to send; None if there is none."""
    check_cells(size, cells)
    check_crossings(cells, crossings)
    numbered = zip(departures(cells), ready_numbers(cells, crossings))
    return min([(slot, outlet) for (outlet, slot), number in numbered if number < 1], default=None)


def served_count(size, cells, crossings):
    """Return the number of the busy rows that crossing slots serve."""
    check_cells(size, cells)
    check_crossings(cells, crossings)
    return number_of_lists(ready_numbers(cells, crossings))


def nth_served(size, cells, crossings, index):
    """Return the busy row with an index among those that crossing slots serve."""
    check_cells(size, cells)
    check_crossings(cells, crossings)
    check_number(index)
    numbers = ready_numbers(cells, crossings)
    if index >= number_of_lists(numbers):
        raise InvalidNumber("an index is less than the number of the busy rows that are served")
    # Of the waiting cells only those that have crossed can leave; they keep their sequence.
    return chosen_row(cells, crossings, digits_of(index, numbers))


def served_index(size, cells, crossings, row):
    """Return the index of a busy row among those that crossing slots serve."""
    is_served = serves(size, cells, crossings, row)
    if not is_busy(size, cells, row):
        raise NotBusy("only busy rows have an index")
    if not is_served:
        raise Impossible("the row is not served")
    return index_of_digits(choices_of(cells, crossings, row), ready_numbers(cells, crossings))


def both_count(size, cells, crossings, other_crossings):
    """Return the number of the busy rows that both crossing slots serve."""
    check_cells(size, cells)
    check_crossings(cells, crossings)
    check_crossings(cells, other_crossings)
    later = [max(one, other) for one, other in zip(crossings, other_crossings)]
    return number_of_lists(ready_numbers(cells, later))
