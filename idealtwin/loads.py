"""How many cells a port has in a slot, and how many pairings a rhythm has. Arguments are checked already.

No function here walks from slot to slot between far cells, or through a long stay.
"""

ENTRY = 1
OUTLET = 2


def port_loads(cells, slots, part):
    """Return for each tuple (slot, port) how many cells of the port have this slot.

    There is one slot for each cell; part tells where the port stands in a cell: ENTRY or OUTLET.
    """
    loads = {}
    for cell, slot in zip(cells, slots):
        place = (slot, cell[part])
        loads[place] = loads.get(place, 0) + 1
    return loads


def greatest_load(cells, slots, part):
    """Return the greatest number of cells of one port that have one slot; 0 without cells."""
    loads = port_loads(cells, slots, part)
    return max(loads.values(), default=0)


def crowded_places(cells, slots, part):
    """Return the ascending tuples (slot, port) of which at least two cells are."""
    loads = port_loads(cells, slots, part)
    return sorted([place for place, load in loads.items() if load >= 2])


def keeps_beats(cells, slots, part, rhythm):
    """Return whether no port of one side has more cells in a slot than the rhythm says."""
    loads = port_loads(cells, slots, part)
    return all([load <= rhythm[place[0] % len(rhythm)] for place, load in loads.items()])


def pairings_within(rhythm, first, last):
    """Return how many pairings the rhythm has in the slots first to last, added up."""
    return _pairings_ahead(rhythm, last + 1) - _pairings_ahead(rhythm, first)


def _pairings_ahead(rhythm, slot):
    rounds, rest = divmod(slot, len(rhythm))
    return rounds * sum(rhythm) + sum(rhythm[:rest])
