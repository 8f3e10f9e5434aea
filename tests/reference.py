"""What the document says, worked out slot by slot and row by row; for small slots only."""

from itertools import product


def slots_of(cells, row):
    return range(0, max(row, default=0) + 2)


def is_there(cell, leaving, slot):
    return cell[0] <= slot <= leaving


def resting(size, cells, row):
    pairs = list(zip(cells, row))
    for slot in slots_of(cells, row):
        for outlet in range(size):
            own = [(cell, leaving) for cell, leaving in pairs if cell[2] == outlet]
            there = any(is_there(cell, leaving, slot) for cell, leaving in own)
            if there and slot not in [leaving for _, leaving in own]:
                return (slot, outlet)
    return None


def unpressed(size, cells, row):
    pairs = list(zip(cells, row))
    for slot in slots_of(cells, row):
        for entry in range(size):
            own = [(cell, leaving) for cell, leaving in pairs if cell[1] == entry]
            there = any(is_there(cell, leaving, slot) for cell, leaving in own)
            if there and slot not in [cell[0] for cell, _ in own]:
                return (slot, entry)
    return None


def simulated(size, cells, pick):
    """Return the row in which each output sends pick(waiting indices) in each slot, if a cell waits."""
    row = [None] * len(cells)
    last = max([cell[0] for cell in cells], default=0) + len(cells)
    for slot in range(last + 1):
        for outlet in range(size):
            waiting = waiting_at(cells, row, outlet, slot)
            if waiting:
                row[pick(waiting)] = slot
    return row


def waiting_at(cells, row, outlet, slot):
    """Return the ascending indices of the cells of an output that wait in a slot; None has not left yet."""
    own = [index for index, cell in enumerate(cells) if cell[2] == outlet and cell[0] <= slot]
    return [index for index in own if row[index] is None or row[index] >= slot]


def choices(size, cells, row):
    """Return the choices that tell a busy row."""
    told = []
    for outlet in range(size):
        for slot in sorted(leaving for cell, leaving in zip(cells, row) if cell[2] == outlet):
            waiting = waiting_at(cells, row, outlet, slot)
            told.append([row[index] for index in waiting].index(slot))
    return told


def busy_rows(size, cells):
    """Return all busy rows in the sequence of their choices."""
    ranges = [range(cell[0], cell[0] + len(cells)) for cell in cells]
    found = []
    for row in product(*ranges):
        pairs = {(leaving, cell[2]) for cell, leaving in zip(cells, row)}
        if len(pairs) == len(cells) and resting(size, cells, row) is None:
            found.append(list(row))
    return sorted(found, key=lambda row: choices(size, cells, row))


def turned(cells, row, crossings, last):
    """Return the cells, their row, the former indices and the crossing slots, turned about."""
    table = []
    for index, ((slot, entry, outlet), leaving) in enumerate(zip(cells, row)):
        table.append(((last - leaving, outlet, entry), last - slot, index, last - crossings[index]))
    table.sort(key=lambda line: line[0])
    return tuple([line[part] for line in table] for part in range(4))
