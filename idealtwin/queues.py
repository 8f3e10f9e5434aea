"""How the outputs send their cells. The arguments of these functions are checked already.

No function here walks from slot to slot between far cells: slots have up to 31 digits. The slots `ready` tell
from when on the outputs can send each cell: these are the slots in which the cells come, or cross.
"""

from idealtwin.checks import LAST_SLOT


def coming_slots(cells):
    """Return the slots in which the cells come."""
    return [cell[0] for cell in cells]


def first_come_row(cells):
    """Return the row in which each output sends the waiting cell with the least index."""
    free = {}
    row = []
    for slot, _, outlet in cells:
        leaving = max(slot, free.get(outlet, 0))
        free[outlet] = leaving + 1
        row.append(leaving)
    return row


def departures(cells):
    """Return the ascending tuples (outlet, slot) in which outputs send a cell in busy rows."""
    return sorted([(cell[2], leaving) for cell, leaving in zip(cells, first_come_row(cells))])


def ready_in(cells, ready, row, outlet, slot):
    """Return the indices of the cells of an output that are ready by a slot and did not leave ahead."""
    own = [index for index, cell in enumerate(cells) if cell[2] == outlet]
    return [index for index in own if ready[index] <= slot <= row[index]]


def ready_numbers(cells, ready):
    """Return for each departure how many cells are ready for it; it is the same in all busy rows.

    A number below 1 tells that no busy row can be sent: then the product of the numbers is 0, as the first
    number below 1 of an output is 0.
    """
    numbers = []
    sent = {}
    for outlet, slot in departures(cells):
        by_now = [index for index, cell in enumerate(cells) if cell[2] == outlet and ready[index] <= slot]
        ahead = sent.get(outlet, 0)
        numbers.append(len(by_now) - ahead)
        sent[outlet] = ahead + 1
    return numbers


def choices_of(cells, ready, row):
    """Return for each departure the number of the one of its ready cells that a busy row sends."""
    choices = []
    for outlet, slot in departures(cells):
        leaving = [row[index] for index in ready_in(cells, ready, row, outlet, slot)]
        choices.append(leaving.index(slot))
    return choices


def chosen_row(cells, ready, choices):
    """Return the busy row with these choices; the choice -1 takes the last ready cell."""
    # A cell that has not left yet has to wait in every slot, so it leaves behind all of them for now.
    row = [LAST_SLOT] * len(cells)
    for (outlet, slot), choice in zip(departures(cells), choices):
        row[ready_in(cells, ready, row, outlet, slot)[choice]] = slot
    return row


def first_gap(spans, filled):
    """Return the least tuple (slot, port) in a span (first, last, port) that is no key of filled.

    None if there is none. Each step passes a key of filled, so long spans take no longer.
    """
    gaps = []
    for first, last, port in spans:
        slot = first
        while (slot, port) in filled:
            slot += 1
        if slot <= last:
            gaps.append((slot, port))
    return min(gaps, default=None)
