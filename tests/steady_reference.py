"""What the document says of steady pairings and of runs, from all pairings of a few cells."""

from itertools import combinations


def is_pairing(waiting, value):
    """Return whether any value is an ascending list of indices of cells with unlike inputs and unlike outputs."""
    if type(value) is not list or any(type(index) is not int for index in value):
        return False
    if any(index not in range(len(waiting)) for index in value) or sorted(set(value)) != value:
        return False
    pairs = combinations([waiting[index] for index in value], 2)
    return all(one[0] != other[0] and one[1] != other[1] for one, other in pairs)


def disturbs(waiting, picks, index):
    """Return whether a cell disturbs a pairing; liking the newer cell more is liking the greater age more."""
    if index in picks:
        return False
    entry, outlet, age, leaving = waiting[index]
    for pick in picks:
        other = waiting[pick]
        if other[0] == entry and other[2] > age:
            return False
        if other[1] == outlet and other[3] < leaving:
            return False
    return True


def disturber(waiting, picks):
    return min([index for index in range(len(waiting)) if disturbs(waiting, picks, index)], default=None)


def all_pairings(waiting):
    indices = range(len(waiting))
    picked = [list(picks) for many in range(min(len(waiting), 8) + 1) for picks in combinations(indices, many)]
    return [picks for picks in picked if is_pairing(waiting, picks)]


def all_steady(waiting):
    """Return all steady pairings, ascending as lists."""
    return sorted(picks for picks in all_pairings(waiting) if disturber(waiting, picks) is None)


def chosen(waiting, pairings, choose):
    """Return the pairing in which each input has the one of its cells in some pairings that choose takes by age."""
    held = {}
    for picks in pairings:
        for pick in picks:
            held.setdefault(waiting[pick][0], []).append((waiting[pick][2], pick))
    return sorted(choose(pairs)[1] for pairs in held.values())


def by_rounds(waiting):
    """Return the steady pairing that is the best one for all inputs, however many cells there are.

    All inputs without a cell ask at once, each one for the cell that it likes most of those not refused.
    """
    refused = set()
    while True:
        asked = {}
        for entry in {cell[0] for cell in waiting}:
            left = [index for index, cell in enumerate(waiting) if cell[0] == entry and index not in refused]
            if left:
                index = max(left, key=lambda at: waiting[at][2])
                asked.setdefault(waiting[index][1], []).append(index)
        lost = set()
        for outlet, indices in asked.items():
            kept = min(indices, key=lambda at: waiting[at][3])
            lost |= set(indices) - {kept}
        if not lost:
            return sorted(index for indices in asked.values() for index in indices)
        refused |= lost


def liking(rule, cell, leaving):
    """Return what an input likes of a cell by a rule, as something that is greater if it is liked more."""
    if rule == "newest":
        return cell[0]
    if rule == "oldest":
        return -cell[0]
    return (-leaving, cell[0])


def run(cells, row, rhythm, rule):
    """Return the crossing slots of a run, slot by slot from slot 0 on."""
    crossings = [None] * len(cells)
    slot = 0
    while None in crossings:
        for _ in range(rhythm[slot % len(rhythm)]):
            ready = [at for at, cell in enumerate(cells) if cell[0] <= slot and crossings[at] is None]
            waiting = [(cells[at][1], cells[at][2], liking(rule, cells[at], row[at]), row[at]) for at in ready]
            for pick in by_rounds(waiting):
                crossings[ready[pick]] = slot
        slot += 1
    return crossings
