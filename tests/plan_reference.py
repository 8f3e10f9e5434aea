"""What the document says of plans, speeds, rhythms, pairings and jams, counted one by one."""

from itertools import product

PARTS = {"inputs": 1, "outputs": 2}


def count(cells, slots, part, slot, port):
    """Return how many cells of a port have a slot."""
    return len([1 for cell, own in zip(cells, slots) if own == slot and cell[part] == port])


def greatest(cells, slots, part):
    """Return the greatest number of cells of one port with one slot."""
    return max([count(cells, slots, part, slot, port) for slot in set(slots) for port in range(8)], default=0)


def crowded(cells, slots, part):
    """Return the ascending (slot, port) that at least two cells have."""
    places = [(slot, port) for slot in sorted(set(slots)) for port in range(8)]
    return [(slot, port) for slot, port in places if count(cells, slots, part, slot, port) > 1]


def keeps_side(cells, slots, rhythm, side):
    """Return whether each port of one side has at most as many cells in each slot as the rhythm says."""
    for slot in set(slots):
        limit = rhythm[slot % len(rhythm)]
        if any(count(cells, slots, PARTS[side], slot, port) > limit for port in range(8)):
            return False
    return True


def keeps_rhythm(cells, slots, rhythm):
    return keeps_side(cells, slots, rhythm, "inputs") and keeps_side(cells, slots, rhythm, "outputs")


def keeps_speeds(cells, slots, speeds):
    return keeps_side(cells, slots, [speeds[0]], "inputs") and keeps_side(cells, slots, [speeds[1]], "outputs")


def all_plans(cells, row):
    """Return all plans for a row with small stays."""
    return [list(plan) for plan in product(*[range(cell[0], leaving + 1) for cell, leaving in zip(cells, row)])]


def is_plan(cells, row, value):
    if not isinstance(value, list) or len(value) != len(cells) or any(type(slot) is not int for slot in value):
        return False
    return all(cell[0] <= slot <= leaving for cell, leaving, slot in zip(cells, row, value))


def has_plan(cells, row, limits):
    """Return whether a row has a plan; limits(side, slot) tells what each port of a side can do in a slot.

    Each cell is tried in each slot of its stay, those with short stays first.
    """
    order = sorted(range(len(cells)), key=lambda index: row[index] - cells[index][0])
    used = {}

    def tried(at):
        if at == len(order):
            return True
        index = order[at]
        slot, entry, outlet = cells[index]
        for crossing in range(slot, row[index] + 1):
            keys = [("inputs", crossing, entry), ("outputs", crossing, outlet)]
            if all(used.get(key, 0) < limits(key[0], crossing) for key in keys):
                for key in keys:
                    used[key] = used.get(key, 0) + 1
                if tried(at + 1):
                    return True
                for key in keys:
                    used[key] -= 1
        return False

    return tried(0)


def has_plan_with_speeds(cells, row, speeds):
    return has_plan(cells, row, lambda side, slot: speeds[0] if side == "inputs" else speeds[1])


def has_plan_with_rhythm(cells, row, rhythm):
    return has_plan(cells, row, lambda side, slot: rhythm[slot % len(rhythm)])


def has_side_plan(cells, row, rhythm, side):
    return has_plan(cells, row, lambda other, slot: rhythm[slot % len(rhythm)] if other == side else 99)


def pairings_within(rhythm, first, last):
    """Return how many pairings a rhythm has in the slots first to last: number by number."""
    length = len(rhythm)
    total = 0
    for slot, number in enumerate(rhythm):
        total += number * ((last - slot) // length - (first - 1 - slot) // length)
    return total


def is_jam(size, cells, row, rhythm, side, value):
    """Return whether any value is a jam."""
    if type(value) is not tuple or len(value) != 3 or any(type(number) is not int for number in value):
        return False
    port, first, last = value
    if not 0 <= port < size or not 0 <= first <= last:
        return False
    own = [1 for cell, leaving in zip(cells, row) if cell[PARTS[side]] == port and cell[0] >= first and leaving <= last]
    return len(own) > pairings_within(rhythm, first, last)


def jams(size, cells, row, rhythm, side):
    """Return all jams that begin in the slot of a cell and end in a leaving slot."""
    bounds = product(range(size), {cell[0] for cell in cells}, set(row))
    return [value for value in bounds if is_jam(size, cells, row, rhythm, side, value)]


def fewest(cells, indices):
    """Return the greatest number of these cells at one port."""
    picked = [cells[index] for index in indices]
    return max([len([1 for cell in picked if cell[part] == port]) for part in (1, 2) for port in range(8)], default=0)


def are_pairings(cells, crossings, slot, value):
    """Return whether any value is a list of as few pairings as possible of the cells that cross in a slot."""
    crossing = [index for index in range(len(cells)) if crossings[index] == slot]
    if type(value) is not list or len(value) != fewest(cells, crossing):
        return False
    told = []
    for pairing in value:
        if type(pairing) is not list or any(type(index) is not int for index in pairing):
            return False
        if any(index not in crossing for index in pairing) or sorted(pairing) != pairing:
            return False
        for at, index in enumerate(pairing):
            for other in pairing[:at]:
                if cells[index][1] == cells[other][1] or cells[index][2] == cells[other][2]:
                    return False
        told += pairing
    return sorted(told) == crossing


def has_enough(rhythm, first, many):
    """Return whether these slots have at least 2 * many - 1 pairings, slot by slot."""
    return sum(rhythm[slot % len(rhythm)] for slot in range(first, first + many)) >= 2 * many - 1


def rhythm_word(size, rhythm, longest):
    """Return what the document tells of a rhythm; longest is small."""
    length = len(rhythm)
    if any(number == 0 for number in rhythm):
        return "fails"
    if size >= 2 and longest >= 2 and any(rhythm[at] + rhythm[(at + 1) % length] <= 2 for at in range(length)):
        return "fails"
    spans = [(first, many) for first in range(length) for many in range(1, longest + 1)]
    if size == 1 or all(has_enough(rhythm, first, many) for first, many in spans):
        return "sure"
    return "open"
