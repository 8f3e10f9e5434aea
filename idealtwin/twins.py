"""Runs: which cells cross in which slots if each slot has some steady pairings."""

from idealtwin.checks import check_crossings, check_rhythm, check_row, check_rule
from idealtwin.errors import Impossible
from idealtwin.pairing import slot_pairings


def run_plan(size, cells, row, rhythm, rule):
    """Return the crossing slots of a run by a rule."""
    check_row(size, cells, row)
    check_rhythm(rhythm)
    check_rule(rule)
    if max(rhythm) == 0:
        raise Impossible("no slot has a pairing")
    return _run(cells, row, rhythm, rule)


def late_cells(size, cells, row, crossings):
    """Return the ascending indices of the cells that cross behind their leaving slot."""
    check_row(size, cells, row)
    check_crossings(cells, crossings)
    return [index for index, crossing in enumerate(crossings) if crossing > row[index]]


def twin_plan(size, cells, row):
    """Return a plan that keeps the speeds (2, 2)."""
    check_row(size, cells, row)
    # Two pairings in each slot are at least 2 * n - 1 in n slots, so this run is in time.
    return _run(cells, row, [2], "newest")


def _run(cells, row, rhythm, rule):
    crossings = [None] * len(cells)
    slot = 0
    while None in crossings:
        rest = [index for index, crossing in enumerate(crossings) if crossing is None]
        # Nothing happens up to the slot in which the first cell of the rest comes. From there on each slot with a
        # pairing moves a cell, so the run walks through at most one round of the rhythm for each cell.
        slot = max(slot, cells[rest[0]][0])
        waiting = [index for index in rest if cells[index][0] <= slot]
        for pairing in slot_pairings(cells, row, waiting, rhythm[slot % len(rhythm)], rule):
            for index in pairing:
                crossings[index] = slot
        slot += 1
    return crossings
