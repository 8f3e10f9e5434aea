"""The checks of parameters: each one raises the error that the document names."""

from idealtwin.errors import InvalidArrivals, InvalidCells, InvalidCrossings, InvalidFrame, InvalidNumber
from idealtwin.errors import InvalidPort, InvalidRhythm, InvalidRow, InvalidRule, InvalidSide, InvalidSize
from idealtwin.errors import InvalidSlot, InvalidSpeeds, InvalidWaiting

GREATEST_SIZE = 8
MOST_CELLS = 60
GREATEST_SPEED = 60
LONGEST_RHYTHM = 40
GREATEST_BEAT = 9
MOST_WAITING = 24
LONGEST_FRAME = 40
LAST_COMING = 10 ** 30 - 1
LAST_SLOT = 10 ** 31 - 1
RULES = ("newest", "oldest", "urgent")


def is_integer(value):
    """Return whether any value is an integer; a bool is none."""
    return isinstance(value, int) and not isinstance(value, bool)


def is_between(value, first, last):
    """Return whether any value is an integer from first to last."""
    return is_integer(value) and first <= value <= last


def is_cell(size, value):
    """Return whether any value is a cell of a switch of this size."""
    if not isinstance(value, tuple) or len(value) != 3:
        return False
    slot, entry, outlet = value
    if not is_between(slot, 0, LAST_COMING):
        return False
    return is_between(entry, 0, size - 1) and is_between(outlet, 0, size - 1)


def is_arrival(size, value):
    """Return whether any value is a tuple (entry, outlet) of a switch of this size."""
    if not isinstance(value, tuple) or len(value) != 2:
        return False
    return all([is_between(port, 0, size - 1) for port in value])


def is_waiting_cell(value):
    """Return whether any value is a waiting cell."""
    if not isinstance(value, tuple) or len(value) != 4:
        return False
    ports = all([is_between(port, 0, GREATEST_SIZE - 1) for port in value[:2]])
    return ports and all([is_between(slot, 0, LAST_SLOT) for slot in value[2:]])


def is_slot_of(cell, value):
    """Return whether any value is a slot in which this cell can cross or leave."""
    return is_between(value, cell[0], LAST_SLOT)


def is_list_of(value, many):
    """Return whether any value is a list of so many items."""
    return isinstance(value, list) and len(value) == many


def check_size(size):
    """Raise InvalidSize unless a value is a size."""
    if not is_between(size, 1, GREATEST_SIZE):
        raise InvalidSize("a size is an integer from 1 to 8")


def check_cells(size, cells):
    """Raise the error of the first parameter that is wrong: the size or its cells."""
    check_size(size)
    if not isinstance(cells, list) or len(cells) > MOST_CELLS:
        raise InvalidCells(None)
    for index, cell in enumerate(cells):
        if not is_cell(size, cell):
            raise InvalidCells(index)
        if index > 0 and cell[:2] <= cells[index - 1][:2]:
            raise InvalidCells(index)


def check_row(size, cells, row):
    """Raise the error of the first parameter that is wrong, up to the row."""
    check_cells(size, cells)
    if not is_list_of(row, len(cells)):
        raise InvalidRow(None)
    taken = {}
    for index, (cell, leaving) in enumerate(zip(cells, row)):
        if not is_slot_of(cell, leaving) or (leaving, cell[2]) in taken:
            raise InvalidRow(index)
        taken[(leaving, cell[2])] = True


def check_crossings(cells, crossings):
    """Raise InvalidCrossings unless a value is crossing slots for these cells."""
    if not is_list_of(crossings, len(cells)):
        raise InvalidCrossings(None)
    for index, (cell, crossing) in enumerate(zip(cells, crossings)):
        if not is_slot_of(cell, crossing):
            raise InvalidCrossings(index)


def check_port(size, port):
    """Raise InvalidPort unless a value is a port of a switch of this size."""
    if not is_between(port, 0, size - 1):
        raise InvalidPort("a port is an integer from 0 to size - 1")


def check_slot(slot):
    """Raise InvalidSlot unless a value is a slot."""
    if not is_between(slot, 0, LAST_SLOT):
        raise InvalidSlot("a slot is an integer from 0 to 10 ** 31 - 1")


def check_speeds(speeds):
    """Raise InvalidSpeeds unless a value is a tuple of two speeds."""
    if not isinstance(speeds, tuple) or len(speeds) != 2:
        raise InvalidSpeeds("speeds are a tuple of two integers")
    for speed in speeds:
        if not is_between(speed, 1, GREATEST_SPEED):
            raise InvalidSpeeds("speeds are integers from 1 to 60")


def check_rhythm(rhythm):
    """Raise InvalidRhythm unless a value is a rhythm."""
    if not isinstance(rhythm, list) or not 1 <= len(rhythm) <= LONGEST_RHYTHM:
        raise InvalidRhythm(None)
    for index, beat in enumerate(rhythm):
        if not is_between(beat, 0, GREATEST_BEAT):
            raise InvalidRhythm(index)


def check_side(side):
    """Raise InvalidSide unless a value is one of the two sides."""
    if side not in ("inputs", "outputs"):
        raise InvalidSide("a side is inputs or outputs")


def check_rule(rule):
    """Raise InvalidRule unless a value is one of the three rules."""
    if rule not in RULES:
        raise InvalidRule("a rule is newest, oldest or urgent")


def check_waiting(waiting):
    """Raise InvalidWaiting unless a value is a list of waiting cells."""
    if not isinstance(waiting, list) or len(waiting) > MOST_WAITING:
        raise InvalidWaiting(None)
    taken = {}
    for index, cell in enumerate(waiting):
        if not is_waiting_cell(cell):
            raise InvalidWaiting(index)
        places = [("age", cell[0], cell[2]), ("leaving", cell[1], cell[3])]
        if any([place in taken for place in places]):
            raise InvalidWaiting(index)
        for place in places:
            taken[place] = True


def check_frame(size, frame):
    """Raise the error of the first parameter that is wrong: the size or the frame."""
    check_size(size)
    if not isinstance(frame, tuple) or len(frame) != 2:
        raise InvalidFrame(None)
    length, cells = frame
    if not is_between(length, 1, LONGEST_FRAME):
        raise InvalidFrame(0)
    try:
        check_cells(size, cells)
    except InvalidCells:
        raise InvalidFrame(1)
    if any([cell[0] >= length for cell in cells]):
        raise InvalidFrame(1)


def check_arrivals(size, arrivals):
    """Raise InvalidArrivals unless a value is a list of tuples (entry, outlet) with ascending inputs."""
    if not isinstance(arrivals, list):
        raise InvalidArrivals(None)
    for index, cell in enumerate(arrivals):
        if not is_arrival(size, cell):
            raise InvalidArrivals(index)
        if index > 0 and cell[0] <= arrivals[index - 1][0]:
            raise InvalidArrivals(index)


def check_number(number, first=0, last=None):
    """Raise InvalidNumber unless a value is an integer from first on, and to last where there is one."""
    if not is_integer(number) or number < first or (last is not None and number > last):
        raise InvalidNumber("a number is an integer in its range")
