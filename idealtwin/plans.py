"""Plans, the speeds and rhythms that crossing slots keep, and pairings."""

from idealtwin.checks import check_cells, check_crossings, check_rhythm, check_row, check_slot, check_speeds
from idealtwin.checks import is_between, is_list_of
from idealtwin.loads import ENTRY, OUTLET, greatest_load, keeps_beats


def is_plan(size, cells, row, value):
    """Return whether any value is a plan: each cell crosses in its stay."""
    check_row(size, cells, row)
    if not is_list_of(value, len(cells)):
        return False
    return all([is_between(slot, cell[0], leaving) for cell, leaving, slot in zip(cells, row, value)])


def speeds_of(size, cells, crossings):
    """Return the greatest number of cells that an input sends, and that an output gets, in one slot."""
    check_cells(size, cells)
    check_crossings(cells, crossings)
    return greatest_load(cells, crossings, ENTRY), greatest_load(cells, crossings, OUTLET)


def keeps_speeds(size, cells, crossings, speeds):
    """Return whether crossing slots keep the speeds of both sides."""
    sent, received = speeds_of(size, cells, crossings)
    check_speeds(speeds)
    return sent <= speeds[0] and received <= speeds[1]


def keeps_rhythm(size, cells, crossings, rhythm):
    """Return whether crossing slots keep a rhythm at both sides."""
    check_cells(size, cells)
    check_crossings(cells, crossings)
    check_rhythm(rhythm)
    return keeps_beats(cells, crossings, ENTRY, rhythm) and keeps_beats(cells, crossings, OUTLET, rhythm)


def pairings_at(size, cells, crossings, slot):
    """Return the cells that cross in a slot, split to as few pairings as possible."""
    crossing = _crossing_at(size, cells, crossings, slot)
    numbers = {}
    for index in crossing:
        _place(cells, numbers, index)
    many = _fewest(cells, crossing)
    return [[index for index in crossing if numbers[index] == number] for number in range(many)]


def shows_pairings(size, cells, crossings, slot, value):
    """Return whether any value is a list of pairings to which the cells of a slot can be split, as few as possible."""
    crossing = _crossing_at(size, cells, crossings, slot)
    if not is_list_of(value, _fewest(cells, crossing)):
        return False
    if not all([_is_pairing(cells, pairing) for pairing in value]):
        return False
    return sorted([index for pairing in value for index in pairing]) == crossing


def _crossing_at(size, cells, crossings, slot):
    check_cells(size, cells)
    check_crossings(cells, crossings)
    check_slot(slot)
    return [index for index, crossing in enumerate(crossings) if crossing == slot]


def _fewest(cells, indices):
    """Return the greatest number of these cells at one port: so many pairings suffice."""
    picked = [cells[index] for index in indices]
    slots = [0] * len(picked)
    return max(greatest_load(picked, slots, ENTRY), greatest_load(picked, slots, OUTLET))


def _is_pairing(cells, value):
    if not isinstance(value, list):
        return False
    if not all([is_between(index, 0, len(cells) - 1) for index in value]):
        return False
    entries = {cells[index][ENTRY] for index in value}
    outlets = {cells[index][OUTLET] for index in value}
    return value == sorted(value) and len(entries) == len(outlets) == len(value)


def _place(cells, numbers, index):
    """Give a cell the number of a pairing, and let others change theirs where this is needed."""
    free_here = _free_number(cells, numbers, ENTRY, cells[index][ENTRY])
    free_there = _free_number(cells, numbers, OUTLET, cells[index][OUTLET])
    # The cells of the chain change their numbers, so what is free at the input gets free at the output, too.
    # The chain never comes to this input: it comes to inputs only by cells with the number that is free here.
    chain = _chain(cells, numbers, cells[index][OUTLET], free_here, free_there)
    for other in chain:
        numbers[other] = free_here + free_there - numbers[other]
    numbers[index] = free_here


def _held(cells, numbers, part, port):
    """Return a dict of the numbers of the pairings in which a port has a cell, with these cells."""
    return {number: index for index, number in numbers.items() if cells[index][part] == port}


def _free_number(cells, numbers, part, port):
    held = _held(cells, numbers, part, port)
    number = 0
    while number in held:
        number += 1
    return number


def _chain(cells, numbers, outlet, first, second):
    """Return the cells that follow one another from an output on, with the numbers first and second by turns."""
    chain = []
    part, port, number = OUTLET, outlet, first
    held = _held(cells, numbers, part, port)
    while number in held:
        chain.append(held[number])
        part = ENTRY + OUTLET - part
        port = cells[held[number]][part]
        number = first + second - number
        held = _held(cells, numbers, part, port)
    return chain
