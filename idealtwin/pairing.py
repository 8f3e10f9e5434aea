"""The steady pairing that is the best one for all inputs, and the pairings of a slot of a run.

Arguments are checked already, and there can be any number of cells.
"""


def best_pairing(waiting):
    """Return the ascending indices of the cells of the steady pairing that is the best one for all inputs.

    A cell is (entry, outlet, liking, leaving): its input likes greater likings more, its output likes cells more
    that leave earlier. No two likings of an input are equal, and no two leaving slots of an output.
    """
    wishes = _wishes(waiting)
    held = {}
    asking = list(wishes)
    # Each input asks for its cells, the most liked one first, until an output keeps one of them. What an output
    # gives up is in no steady pairing, so no input passes a cell that it could have.
    while asking:
        entry = asking.pop()
        if wishes[entry]:
            index = wishes[entry].pop()
            asking.extend(_refused(waiting, held, index))
    return sorted(held.values())


def slot_pairings(cells, row, waiting, many, rule):
    """Return the pairings of a slot, one after another, each of those of the waiting cells that still wait.

    Cells are told by their ascending indices. Where no cell is left, a pairing is empty.
    """
    pairings = []
    rest = waiting
    for _ in range(many):
        liked = [_liked_cell(cells[index], row[index], rule) for index in rest]
        picked = [rest[at] for at in best_pairing(liked)]
        pairings.append(picked)
        rest = [index for index in rest if index not in picked]
    return pairings


def _wishes(waiting):
    """Return for each input the indices of its cells, the most liked one at the end."""
    liked = sorted([(cell[0], cell[2], index) for index, cell in enumerate(waiting)])
    wishes = {}
    for entry, _, index in liked:
        wishes.setdefault(entry, []).append(index)
    return wishes


def _refused(waiting, held, index):
    """Let an output keep a cell or refuse it; return the inputs that have to ask again."""
    entry, outlet, _, leaving = waiting[index]
    if outlet not in held:
        held[outlet] = index
        return []
    kept = waiting[held[outlet]]
    if kept[3] < leaving:
        return [entry]
    held[outlet] = index
    return [kept[0]]


def _liked_cell(cell, leaving, rule):
    """Return a cell with what its input likes by a rule, as best_pairing takes it."""
    slot, entry, outlet = cell
    likings = {"newest": slot, "oldest": -slot, "urgent": (-leaving, slot)}
    return entry, outlet, likings[rule], leaving
