"""What one slow side can do: clashes and bunches, plans with one slow side, jams."""

from idealtwin.checks import check_cells, check_number, check_rhythm, check_row, check_side, is_integer
from idealtwin.errors import NotBusy, NotPressed
from idealtwin.loads import ENTRY, OUTLET, crowded_places, greatest_load, keeps_beats, pairings_within
from idealtwin.plans import is_plan
from idealtwin.queues import coming_slots
from idealtwin.rows import is_busy
from idealtwin.turns import is_pressed


def clashes(size, cells, row):
    """Return the ascending tuples (slot, entry) such that at least two cells of an input leave in a slot."""
    check_row(size, cells, row)
    return crowded_places(cells, row, ENTRY)


def clash_number(size, cells, row):
    """Return the greatest number of cells of one input that leave in one slot; 0 without cells."""
    check_row(size, cells, row)
    return greatest_load(cells, row, ENTRY)


def bunches(size, cells):
    """Return the ascending tuples (slot, outlet) such that at least two cells of an output come in a slot."""
    check_cells(size, cells)
    return crowded_places(cells, coming_slots(cells), OUTLET)


def bunch_number(size, cells):
    """Return the greatest number of cells of one output that come in one slot; 0 without cells."""
    check_cells(size, cells)
    return greatest_load(cells, coming_slots(cells), OUTLET)


def plan_by_leaving(size, cells, row, number):
    """Return the plan that keeps the speeds (number, 1) for a busy row; None if there is none."""
    check_row(size, cells, row)
    check_number(number, 1)
    if not is_busy(size, cells, row):
        raise NotBusy("only in a busy row each cell has to cross in its leaving slot")
    return list(row) if greatest_load(cells, row, ENTRY) <= number else None


def plan_by_coming(size, cells, row, number):
    """Return the plan that keeps the speeds (1, number) for a pressed row; None if there is none."""
    check_row(size, cells, row)
    check_number(number, 1)
    if not is_pressed(size, cells, row):
        raise NotPressed("only in a pressed row each cell has to cross in its own slot")
    coming = coming_slots(cells)
    return coming if greatest_load(cells, coming, OUTLET) <= number else None


def side_plan(size, cells, row, rhythm, side):
    """Return a plan that keeps the rhythm at one side; None if there is none."""
    if jam(size, cells, row, rhythm, side) is not None:
        return None
    plan = coming_slots(cells)
    for port in range(size):
        crossed = _crossed(_spans(cells, row, side, port), rhythm)
        for index, slot in crossed.items():
            plan[index] = slot
    return plan


def shows_side_plan(size, cells, row, rhythm, side, value):
    """Return whether any value is a plan that keeps the rhythm at one side."""
    _check_one_side(size, cells, row, rhythm, side)
    return is_plan(size, cells, row, value) and keeps_beats(cells, value, _part(side), rhythm)


def jam(size, cells, row, rhythm, side):
    """Return a jam as a tuple (port, first, last); None if there is a plan."""
    _check_one_side(size, cells, row, rhythm, side)
    for port in range(size):
        spans = _spans(cells, row, side, port)
        for first, last in _bounds(spans):
            if _is_jammed(spans, rhythm, first, last):
                return port, first, last
    return None


def shows_jam(size, cells, row, rhythm, side, value):
    """Return whether any value is a jam."""
    _check_one_side(size, cells, row, rhythm, side)
    if not isinstance(value, tuple) or len(value) != 3 or not all([is_integer(part) for part in value]):
        return False
    port, first, last = value
    return 0 <= first <= last and _is_jammed(_spans(cells, row, side, port), rhythm, first, last)


def _check_one_side(size, cells, row, rhythm, side):
    check_row(size, cells, row)
    check_rhythm(rhythm)
    check_side(side)


def _part(side):
    return ENTRY if side == "inputs" else OUTLET


def _spans(cells, row, side, port):
    """Return for each cell of a port the tuple (first slot of its stay, last slot, index)."""
    part = _part(side)
    return [(cell[0], row[index], index) for index, cell in enumerate(cells) if cell[part] == port]


def _bounds(spans):
    """Return the ascending tuples (first, last) of slots in which a stay begins and one ends.

    If there is a jam, there is one between such slots: it can be narrowed to the stays within it.
    """
    return sorted({(one[0], other[1]) for one in spans for other in spans if one[0] <= other[1]})


def _is_jammed(spans, rhythm, first, last):
    within = [span for span in spans if first <= span[0] and span[1] <= last]
    return len(within) > pairings_within(rhythm, first, last)


def _crossed(spans, rhythm):
    """Return a dict of the indices and the slots in which the cells cross, those that leave first ahead.

    Without a jam no cell is late. The rhythm has a number above 0 then, so this ends.
    """
    crossed = {}
    slot = 0
    while len(crossed) < len(spans):
        waiting = [span for span in spans if span[2] not in crossed]
        slot = max(slot, min([span[0] for span in waiting]))
        ready = sorted([(span[1], span[2]) for span in waiting if span[0] <= slot])
        for _, index in ready[:rhythm[slot % len(rhythm)]]:
            crossed[index] = slot
        slot += 1
    return crossed
